/- A name that is not called;what is none,in the document's own reader. · nil,and what begins no expression,in the document's own reader. · The document's own reader of expressions: all tied together. · The document's own reader: a name. -/
import Derived.Test.YtgkdmgndebifiaaGreatDoorZd12
import Derived.Test.YtgkdmgndebifiaaGreatDoorZd16
import Derived.Test.YtgkdmgndebifiaaGreatDoorZd9
import Derived.Test.YtgkdmgndebifiaaGreatDoorZd10
import Derived.Test.YtgkdmgndebifiaaGreatDoorZd11
import Derived.Test.YtgkdmgndebifiaaGreatDoorZd13
import Derived.Test.YtgkdmgndebifiaaGreatDoorZd14
import Derived.Test.YtgkdmgndebifiaaGreatDoorZd15
set_option linter.unusedSimpArgs false
set_option linter.unusedVariables false
set_option maxRecDepth 10000
namespace Go.Proofs.YtgkdmgndebifiaaGreatDoor
open Go.RowKit
variable {w w':World} {g len:Nat} {T:List Tk} {wd:Int} {st:PS}
set_option maxHeartbeats 8000000 in
theorem first_var (f:Nat) (ex:Rdr) (h0:st.e = 0) (hk:(hdT st.ts 0).k = 1) (hcall:st.isCall = false) (h:Rp w g len T wd st) :
  Calls Tryz.prog 91 #[.pointer (some ⟨g,0,none⟩)] w (RNode w g len T wd (sglP len ex f st)):=by
 have hg:=h.lt
 have htl:=h.tl
 have HK:=hide (fun W (x:Ext w W) => kind_r (h.ext x) h0)
 rw [hk] at HK
 rcases h.hd h0 with ⟨hn,_⟩ | ⟨b,off,cap,i,pl,x,r,hx,hi,hd,h1,hb,hcc,hcm,p0,p1,p2,p3,hV⟩
 ·rw [hd_nil hn] at hk;exact absurd hk (by decide)
 rw [hd_cons hx] at hk
 obtain ⟨i2,ci,hi2,hstep⟩:=h.step h0 (by rw [hx];simp)
 obtain ⟨c0,c1,c2,c3,c4,c5,c6,zf⟩:=rp_c h1
 obtain rfl:i = i2:=by
  rw [c1] at ci
  injection ci with ci
  injection ci with _ ci
  omega
 have HS:=hide hstep
 have hsg:sglP len ex f st = (⟨19,0,x.t,0,[]⟩,st.next):=by
  unfold sglP
  rw [noS (by rw [hd_cons hx,hk];decide),noS (by rw [hd_cons hx,hk];decide),noW (by rw [hd_cons hx,hk];decide),hcall]
  unfold litP
  rw [hd_cons hx]
  simp [hk]
 rw [hsg]
 have H1:=hide h1
 have hbw:b < w.heap.size:=by omega
 have hbg:(b == g) = false:=by simp;omega
 have hy3:hdT st.ts 1 = (T[i + 1]?).getD tkZ:=by
  unfold hdT
  rw [hx,← hd,List.getElem?_drop]
 have hc2:isT (hdT st.ts 1) 6 ⟨#[40]⟩ = false:=by
  unfold PS.isCall at hcall
  rw [hd_cons hx,hk] at hcall
  exact hcall
 rw [hy3] at hc2
 by_cases hi1:i + 1 < T.length
 ·obtain ⟨b',off',cap',y,hsl,_,_,_,hy',q0,q1,q2,q3⟩:=hV.at (i + 1) hi1
  injection hsl with e1 _ _
  injection e1 with e1
  injection e1 with e1 e2 _
  subst e1 e2
  have hy2:(T[i + 1]?).getD tkZ = y:=hy'
  rw [hy2] at hc2
  unfold isT at hc2
  have HQ1:Hd (i + 1 < T.length):=hi1
  clear h1 h hx hstep ci hV hsg hy3 hd
  generalize T.length = N at *
  have hq1:¬ ((N:Int) ≤ (i:Int) + 1):=by omega
  have hq2:decide ((N:Int) ≤ (i:Int) + 1) = false:=by simp;omega
  have hq3:(i:Int) + 1 < (N:Int):=by omega
  cases hyk:(y.k == 6)
  ·have hyk2:(y.k != 6) = true:=by rw [bne,hyk];rfl
   go_enter Tryz.func91,Tryz.ntmps91
   go_wp2_with (go_at_call 48;refine Calls.mono (unhide HK _ (Ext.alloc _ _)) ?_;rintro e w1 ⟨rfl,hw⟩;have X1:=hide ((Ext.alloc _ _).trans hw);have R1:=hide (hw.row (Go.heap_alloc_new w _));have hrg:=(unhide X1).row (unhide H1);obtain ⟨c0,c1,c2,c3,c4,c5,c6,zf⟩:=rp_c hrg;have p1:=(unhide X1).cell p1;have q0:=(unhide X1).cell q0;have q1:=(unhide X1).cell q1;have hg1:w.heap.size < w1.heap.size:=(Array.getElem?_eq_some_iff.1 (unhide R1)).1;clear hw hrg)
   have HW:Nonempty (RGw w1):=⟨⟨w1,Ext.refl _⟩⟩
   have k0:∀ y:RGw w1,y.w.cell? ⟨g,0,none⟩ = some (.slice (some ⟨b,off,none⟩) N cap):=fun y => y.h.cell c0
   have k1:∀ y:RGw w1,y.w.cell? ⟨g,1,none⟩ = some (.int .i64 (i:Int)):=fun y => y.h.cell c1
   have k2:∀ y:RGw w1,y.w.cell? ⟨b,off + i * 4 + 1,none⟩ = some (.string x.t):=fun y => y.h.cell p1
   have k3:∀ z:RGw w1,z.w.cell? ⟨b,off + (i + 1) * 4,none⟩ = some (.int .i64 y.k):=fun z => z.h.cell q0
   have k4:∀ z:RGw w1,z.w.cell? ⟨b,off + (i + 1) * 4 + 1,none⟩ = some (.string y.t):=fun z => z.h.cell q1
   clear c0 c1 c2 c3 c4 c5 c6 zf
   refine wp_region_rx (W:=w1) (by kernel_rfl) (by kernel_rfl) (Ext.refl _) ?_
   repeat (go_big_quiet_step (fail))
   refine wpQuiet_nil ?_
   rintro w2 ⟨n2,hn2⟩
   have hx2:Ext w1 w2:=hn2 ▸ n2.h
   clear hn2 n2
   go_wp2_with fail
   refine wp_region_rx (W:=w1) (by kernel_rfl) (by kernel_rfl) hx2 ?_
   repeat (go_big_quiet_step (fail))
   refine wpQuiet_nil ?_
   rintro w3 ⟨n3,hn3⟩
   have hx3:Ext w1 w3:=hn3 ▸ n3.h
   clear hn3 n3 hx2 k0 k1 k2 k3 k4 HW
   have X3:=hide ((unhide X1).trans hx3)
   have R3:=hide (hx3.row (unhide R1))
   have hrg:=(unhide X3).row (unhide H1)
   obtain ⟨c0,c1,c2,c3,c4,c5,c6,zf⟩:=rp_c hrg
   have r0:=rowC (unhide R3) 0 rfl
   have r1:=rowC (unhide R3) 1 rfl
   have r2:=rowC (unhide R3) 2 rfl
   have r3:=rowC (unhide R3) 3 rfl
   have r4:=rowC (unhide R3) 4 rfl
   have rz:=rowF (unhide R3)
   have hz3:w.heap.size < w3.heap.size:=(Array.getElem?_eq_some_iff.1 (unhide R3)).1
   have hwg:(w.heap.size == g) = false:=by simp;omega
   clear hx3 X1 R1 hrg
   go_wp2_with fail
   have hS4:Rp (w3.setCell ⟨g,1,none⟩ (.int .i64 ((i:Int) + 1))) g len T wd st.next:=unhide HS w3 (Gr.of (unhide X3)) ((unhide X3).block g hg)
   have hG4:Gr g w (w3.setCell ⟨g,1,none⟩ (.int .i64 ((i:Int) + 1))):=(Gr.of (unhide X3)).set (p:=⟨g,_,none⟩) (Or.inr rfl) _
   have hrowF:(set5 (w3.setCell ⟨g,1,none⟩ (.int .i64 ((i:Int) + 1))) w.heap.size 19 0 x.t 0 (.slice none 0 0)).heap[w.heap.size]? = some (nodO 19 0 x.t 0 (.slice none 0 0)):=set5_row (row_other (unhide R3) (by show w.heap.size ≠ g;omega) _ _) _ _ _ _ _
   exact bodyPost_ret (v:=nodV 19 0 x.t 0 (.slice none 0 0)) (res_nodR Tryz.results91 _ _ w.heap.size _ _ _ _ _ rfl hrowF) rfl (rnode_end (l:=[]) hg hS4 hG4 (Nat.le_refl _) trivial (fun _ => rfl))
  ·have hyk2:(y.k != 6) = false:=by rw [bne,hyk];rfl
   have hyt:(y.t.toList == (⟨#[40]⟩:ByteArray).toList) = false:=by rw [hyk] at hc2;exact hc2
   have hyt2:(y.t.toList == [40]) = false:=by simpa using hyt
   have hyt3:(y.t.toList != [40]) = true:=by rw [bne,hyt2];rfl
   go_enter Tryz.func91,Tryz.ntmps91
   go_wp2_with (go_at_call 48;refine Calls.mono (unhide HK _ (Ext.alloc _ _)) ?_;rintro e w1 ⟨rfl,hw⟩;have X1:=hide ((Ext.alloc _ _).trans hw);have R1:=hide (hw.row (Go.heap_alloc_new w _));have hrg:=(unhide X1).row (unhide H1);obtain ⟨c0,c1,c2,c3,c4,c5,c6,zf⟩:=rp_c hrg;have p1:=(unhide X1).cell p1;have q0:=(unhide X1).cell q0;have q1:=(unhide X1).cell q1;have hg1:w.heap.size < w1.heap.size:=(Array.getElem?_eq_some_iff.1 (unhide R1)).1;clear hw hrg)
   have HW:Nonempty (RGw w1):=⟨⟨w1,Ext.refl _⟩⟩
   have k0:∀ y:RGw w1,y.w.cell? ⟨g,0,none⟩ = some (.slice (some ⟨b,off,none⟩) N cap):=fun y => y.h.cell c0
   have k1:∀ y:RGw w1,y.w.cell? ⟨g,1,none⟩ = some (.int .i64 (i:Int)):=fun y => y.h.cell c1
   have k2:∀ y:RGw w1,y.w.cell? ⟨b,off + i * 4 + 1,none⟩ = some (.string x.t):=fun y => y.h.cell p1
   have k3:∀ z:RGw w1,z.w.cell? ⟨b,off + (i + 1) * 4,none⟩ = some (.int .i64 y.k):=fun z => z.h.cell q0
   have k4:∀ z:RGw w1,z.w.cell? ⟨b,off + (i + 1) * 4 + 1,none⟩ = some (.string y.t):=fun z => z.h.cell q1
   clear c0 c1 c2 c3 c4 c5 c6 zf
   refine wp_region_rx (W:=w1) (by kernel_rfl) (by kernel_rfl) (Ext.refl _) ?_
   repeat (go_big_quiet_step (fail))
   refine wpQuiet_nil ?_
   rintro w2 ⟨n2,hn2⟩
   have hx2:Ext w1 w2:=hn2 ▸ n2.h
   clear hn2 n2
   go_wp2_with fail
   refine wp_region_rx (W:=w1) (by kernel_rfl) (by kernel_rfl) hx2 ?_
   repeat (go_big_quiet_step (fail))
   refine wpQuiet_nil ?_
   rintro w3 ⟨n3,hn3⟩
   have hx3:Ext w1 w3:=hn3 ▸ n3.h
   clear hn3 n3 hx2 k0 k1 k2 k3 k4 HW
   have X3:=hide ((unhide X1).trans hx3)
   have R3:=hide (hx3.row (unhide R1))
   have hrg:=(unhide X3).row (unhide H1)
   obtain ⟨c0,c1,c2,c3,c4,c5,c6,zf⟩:=rp_c hrg
   have r0:=rowC (unhide R3) 0 rfl
   have r1:=rowC (unhide R3) 1 rfl
   have r2:=rowC (unhide R3) 2 rfl
   have r3:=rowC (unhide R3) 3 rfl
   have r4:=rowC (unhide R3) 4 rfl
   have rz:=rowF (unhide R3)
   have hz3:w.heap.size < w3.heap.size:=(Array.getElem?_eq_some_iff.1 (unhide R3)).1
   have hwg:(w.heap.size == g) = false:=by simp;omega
   clear hx3 X1 R1 hrg
   go_wp2_with fail
   have hS4:Rp (w3.setCell ⟨g,1,none⟩ (.int .i64 ((i:Int) + 1))) g len T wd st.next:=unhide HS w3 (Gr.of (unhide X3)) ((unhide X3).block g hg)
   have hG4:Gr g w (w3.setCell ⟨g,1,none⟩ (.int .i64 ((i:Int) + 1))):=(Gr.of (unhide X3)).set (p:=⟨g,_,none⟩) (Or.inr rfl) _
   have hrowF:(set5 (w3.setCell ⟨g,1,none⟩ (.int .i64 ((i:Int) + 1))) w.heap.size 19 0 x.t 0 (.slice none 0 0)).heap[w.heap.size]? = some (nodO 19 0 x.t 0 (.slice none 0 0)):=set5_row (row_other (unhide R3) (by show w.heap.size ≠ g;omega) _ _) _ _ _ _ _
   exact bodyPost_ret (v:=nodV 19 0 x.t 0 (.slice none 0 0)) (res_nodR Tryz.results91 _ _ w.heap.size _ _ _ _ _ rfl hrowF) rfl (rnode_end (l:=[]) hg hS4 hG4 (Nat.le_refl _) trivial (fun _ => rfl))
 ·have HQ1:Hd (¬ i + 1 < T.length):=hi1
  clear h1 h hx hstep ci hV hsg hy3 hd
  generalize T.length = N at *
  have hq1:(N:Int) ≤ (i:Int) + 1:=by omega
  have hq2:decide ((N:Int) ≤ (i:Int) + 1) = true:=by simp;omega
  go_enter Tryz.func91,Tryz.ntmps91
  go_wp2_with (go_at_call 48;refine Calls.mono (unhide HK _ (Ext.alloc _ _)) ?_;rintro e w1 ⟨rfl,hw⟩;have X1:=hide ((Ext.alloc _ _).trans hw);have R1:=hide (hw.row (Go.heap_alloc_new w _));have hrg:=(unhide X1).row (unhide H1);obtain ⟨c0,c1,c2,c3,c4,c5,c6,zf⟩:=rp_c hrg;have p1:=(unhide X1).cell p1;have hg1:w.heap.size < w1.heap.size:=(Array.getElem?_eq_some_iff.1 (unhide R1)).1;clear hw hrg)
  have HW:Nonempty (RGw w1):=⟨⟨w1,Ext.refl _⟩⟩
  have k0:∀ y:RGw w1,y.w.cell? ⟨g,0,none⟩ = some (.slice (some ⟨b,off,none⟩) N cap):=fun y => y.h.cell c0
  have k1:∀ y:RGw w1,y.w.cell? ⟨g,1,none⟩ = some (.int .i64 (i:Int)):=fun y => y.h.cell c1
  have k2:∀ y:RGw w1,y.w.cell? ⟨b,off + i * 4 + 1,none⟩ = some (.string x.t):=fun y => y.h.cell p1
  clear c0 c1 c2 c3 c4 c5 c6 zf
  refine wp_region_rx (W:=w1) (by kernel_rfl) (by kernel_rfl) (Ext.refl _) ?_
  repeat (go_big_quiet_step (fail))
  refine wpQuiet_nil ?_
  rintro w2 ⟨n2,hn2⟩
  have hx2:Ext w1 w2:=hn2 ▸ n2.h
  clear hn2 n2
  go_wp2_with fail
  refine wp_region_rx (W:=w1) (by kernel_rfl) (by kernel_rfl) hx2 ?_
  repeat (go_big_quiet_step (fail))
  refine wpQuiet_nil ?_
  rintro w3 ⟨n3,hn3⟩
  have hx3:Ext w1 w3:=hn3 ▸ n3.h
  clear hn3 n3 hx2 k0 k1 k2 HW
  have X3:=hide ((unhide X1).trans hx3)
  have R3:=hide (hx3.row (unhide R1))
  have hrg:=(unhide X3).row (unhide H1)
  obtain ⟨c0,c1,c2,c3,c4,c5,c6,zf⟩:=rp_c hrg
  have r0:=rowC (unhide R3) 0 rfl
  have r1:=rowC (unhide R3) 1 rfl
  have r2:=rowC (unhide R3) 2 rfl
  have r3:=rowC (unhide R3) 3 rfl
  have r4:=rowC (unhide R3) 4 rfl
  have rz:=rowF (unhide R3)
  have hz3:w.heap.size < w3.heap.size:=(Array.getElem?_eq_some_iff.1 (unhide R3)).1
  have hwg:(w.heap.size == g) = false:=by simp;omega
  clear hx3 X1 R1 hrg
  go_wp2_with fail
  have hS4:Rp (w3.setCell ⟨g,1,none⟩ (.int .i64 ((i:Int) + 1))) g len T wd st.next:=unhide HS w3 (Gr.of (unhide X3)) ((unhide X3).block g hg)
  have hG4:Gr g w (w3.setCell ⟨g,1,none⟩ (.int .i64 ((i:Int) + 1))):=(Gr.of (unhide X3)).set (p:=⟨g,_,none⟩) (Or.inr rfl) _
  have hrowF:(set5 (w3.setCell ⟨g,1,none⟩ (.int .i64 ((i:Int) + 1))) w.heap.size 19 0 x.t 0 (.slice none 0 0)).heap[w.heap.size]? = some (nodO 19 0 x.t 0 (.slice none 0 0)):=set5_row (row_other (unhide R3) (by show w.heap.size ≠ g;omega) _ _) _ _ _ _ _
  exact bodyPost_ret (v:=nodV 19 0 x.t 0 (.slice none 0 0)) (res_nodR Tryz.results91 _ _ w.heap.size _ _ _ _ _ rfl hrowF) rfl (rnode_end (l:=[]) hg hS4 hG4 (Nat.le_refl _) trivial (fun _ => rfl))
end Go.Proofs.YtgkdmgndebifiaaGreatDoor
namespace Go.Proofs.YtgkdmgndebifiaaGreatDoor
open Go.RowKit
variable {w w':World} {g len:Nat} {T:List Tk} {wd:Int} {st:PS}
set_option maxHeartbeats 8000000 in
theorem first_nil (f:Nat) (ex:Rdr) (h0:st.e = 0) (hW:st.isW ⟨#[110,105,108]⟩ = true) (h:Rp w g len T wd st) :
  Calls Tryz.prog 91 #[.pointer (some ⟨g,0,none⟩)] w (RNode w g len T wd (sglP len ex f st)):=by
 have hg:=h.lt
 have hk2:(hdT st.ts 0).k = 2:=by
  unfold PS.isW isT at hW
  rw [Bool.and_eq_true] at hW
  simpa using hW.1
 have hsg:sglP len ex f st = (⟨18,0,emptyB,0,[]⟩,st.next):=by
  unfold sglP
  rw [noS (by rw [hk2];decide),noS (by rw [hk2];decide),hW]
  rfl
 rw [hsg]
 have HK:=hide (fun W (x:Ext w W) => kind_r (h.ext x) h0)
 rw [hk2] at HK
 have HTk:Hd (∀ W,Ext w W → Calls Tryz.prog 33 #[.pointer (some ⟨g,0,none⟩),.string ⟨#[110,105,108]⟩] W (RAns W g len T wd (.bool true) st.next)):=fun W x => by
  have:=take_w (h.ext x) ⟨#[110,105,108]⟩ (by decide +kernel)
  have e:st.takeW ⟨#[110,105,108]⟩ = (true,st.next):=by unfold PS.takeW;rw [hW];rfl
  rw [e] at this
  exact this
 obtain ⟨V,i,pl,dp,h1,-⟩:=h.ex
 rw [h0] at h1
 obtain ⟨c0,c1,c2,c3,c4,c5,c6,zf⟩:=rp_c h1
 clear h1 h hsg
 go_enter Tryz.func91,Tryz.ntmps91
 go_wp2_with (first
  | (go_at_call 48;refine Calls.mono (unhide HK _ (Ext.alloc _ _)) ?_;rintro e w1 ⟨rfl,hw⟩;have X1:=hide ((Ext.alloc _ _).trans hw);have R1:=hide (hw.row (Go.heap_alloc_new w _));clear hw)
  | (have T9:=unhide X1;go_at_call 33;refine Calls.mono (unhide HTk _ T9) ?_;rintro e w2 ⟨rfl,hs,hw⟩;have S2:=hide hs;have G2:=hide ((Gr.of T9).trans hw);have hz1:w.heap.size < w1.heap.size:=(Array.getElem?_eq_some_iff.1 (unhide R1)).1;have R2:=hide (hw.row (unhide R1) (by omega));have r0:=rowC (unhide R2) 0 rfl;have r1:=rowC (unhide R2) 1 rfl;have r2:=rowC (unhide R2) 2 rfl;have r3:=rowC (unhide R2) 3 rfl;have r4:=rowC (unhide R2) 4 rfl;have rz:=rowF (unhide R2);clear hw hs T9 X1 R1))
 have hrowF:(set5 w2 w.heap.size 18 0 emptyB 0 (.slice none 0 0)).heap[w.heap.size]? = some (nodO 18 0 emptyB 0 (.slice none 0 0)):=set5_row (unhide R2) _ _ _ _ _
 exact bodyPost_ret (v:=nodV 18 0 emptyB 0 (.slice none 0 0)) (res_nodR Tryz.results91 _ _ w.heap.size _ _ _ _ _ rfl hrowF) rfl (rnode_end (l:=[]) hg (unhide S2) (unhide G2) (Nat.le_refl _) trivial (fun _ => rfl))
set_option maxHeartbeats 8000000 in
theorem first_none (f:Nat) (ex:Rdr) (h0:st.e = 0) (hk1:(hdT st.ts 0).k ≠ 1) (hk3:(hdT st.ts 0).k ≠ 3) (hk4:(hdT st.ts 0).k ≠ 4) (hk5:(hdT st.ts 0).k ≠ 5) (hW:st.isW ⟨#[110,105,108]⟩ = false) (hS0:st.isS ⟨#[40]⟩ = false) (hS:st.isS ⟨#[91]⟩ = false) (h:Rp w g len T wd st) :
  Calls Tryz.prog 91 #[.pointer (some ⟨g,0,none⟩)] w (RNode w g len T wd (sglP len ex f st)):=by
 have hg:=h.lt
 have hsg:sglP len ex f st = (nodeZ,st.fail len 10):=by
  unfold sglP
  rw [hS0,hS,hW,noC hk1]
  unfold litP
  simp [hk1,hk3,hk4,hk5]
 rw [hsg]
 have HK:=hide (fun W (x:Ext w W) => kind_r (h.ext x) h0)
 have b1:((hdT st.ts 0).k == 1) = false:=by simpa using hk1
 have b3:((hdT st.ts 0).k == 3) = false:=by simpa using hk3
 have b4:((hdT st.ts 0).k == 4) = false:=by simpa using hk4
 have b5:((hdT st.ts 0).k == 5) = false:=by simpa using hk5
 generalize (hdT st.ts 0).k = kd at *
 have HTk:Hd (∀ W,Ext w W → Calls Tryz.prog 33 #[.pointer (some ⟨g,0,none⟩),.string ⟨#[110,105,108]⟩] W (RAns W g len T wd (.bool false) st)):=fun W x => by
  have:=take_w (h.ext x) ⟨#[110,105,108]⟩ (by decide +kernel)
  have e:st.takeW ⟨#[110,105,108]⟩ = (false,st):=by unfold PS.takeW;rw [hW];rfl
  rw [e] at this
  exact this
 have HI1:Hd (∀ W,Rp W g len T wd st → Calls Tryz.prog 49 #[.pointer (some ⟨g,0,none⟩),.string ⟨#[40]⟩] W fun e w' => e = .returned (.bool false) ∧ Ext W w'):=fun W x => by
  have:=is_r x h0 ⟨#[40]⟩
  rw [isA_S x h0 (by decide +kernel),hS0] at this
  exact this
 have HI2:Hd (∀ W,Rp W g len T wd st → Calls Tryz.prog 49 #[.pointer (some ⟨g,0,none⟩),.string ⟨#[91]⟩] W fun e w' => e = .returned (.bool false) ∧ Ext W w'):=fun W x => by
  have:=is_r x h0 ⟨#[91]⟩
  rw [isA_S x h0 (by decide +kernel),hS] at this
  exact this
 have HF:=hide (fun (W:World) (x:Rp W g len T wd st) => fail_r x 10 (by decide))
 have HE:Hd ((st.fail len 10).e ≠ 0):=by
  unfold PS.fail
  rw [if_pos h0]
  exact (show ¬ (10:Int) = 0 by decide)
 obtain ⟨V,i,pl,dp,h1,-⟩:=h.ex
 rw [h0] at h1
 obtain ⟨c0,c1,c2,c3,c4,c5,c6,zf⟩:=rp_c h1
 clear h1 h hsg hk1 hk3 hk4 hk5
 go_enter Tryz.func91,Tryz.ntmps91
 go_wp2_with (first
  | (go_at_call 48;refine Calls.mono (unhide HK _ (Ext.alloc _ _)) ?_;rintro e w1 ⟨rfl,hw⟩;have X1:=hide ((Ext.alloc _ _).trans hw);have R1:=hide (hw.row (Go.heap_alloc_new w _));clear hw)
  | (have T9:=unhide X1;go_at_call 33;refine Calls.mono (unhide HTk _ T9) ?_;rintro e w2 ⟨rfl,hs,hw⟩;have S2:=hide hs;have G2:=hide ((Gr.of T9).trans hw);have hz1:w.heap.size < w1.heap.size:=(Array.getElem?_eq_some_iff.1 (unhide R1)).1;have R2:=hide (hw.row (unhide R1) (by omega));clear hw hs T9 X1 R1)
  | (have T9:=unhide S2;go_at_call 49;refine Calls.mono (unhide HI1 _ T9) ?_;rintro e w3 ⟨rfl,hw⟩;have S2b:=hide (T9.ext hw);have G2b:=hide ((unhide G2).trans (Gr.of hw));have R2b:=hide (hw.row (unhide R2));clear hw T9 S2 G2 R2)
  | (have T9:=unhide S2b;go_at_call 49;refine Calls.mono (unhide HI2 _ T9) ?_;rintro e w3b ⟨rfl,hw⟩;have S3:=hide (T9.ext hw);have G3:=hide ((unhide G2b).trans (Gr.of hw));have R3:=hide (hw.row (unhide R2b));clear hw T9 S2b G2b R2b)
  | (have T9:=unhide S3;go_at_call 47;refine Calls.mono (unhide HF _ T9) ?_;rintro e w4 ⟨rfl,hs,hw⟩;have S4:=hide hs;have hz3:w.heap.size < w3b.heap.size:=(Array.getElem?_eq_some_iff.1 (unhide R3)).1;have G4:=hide ((unhide G3).trans hw);have R4:=hide (hw.row (unhide R3) (by omega));have r0:=rowC (unhide R4) 0 rfl;have r1:=rowC (unhide R4) 1 rfl;have r2:=rowC (unhide R4) 2 rfl;have r3:=rowC (unhide R4) 3 rfl;have r4:=rowC (unhide R4) 4 rfl;have rz:=rowF (unhide R4);clear hw hs T9 S3 G3 R3))
 have hrowF:(set5 w4 w.heap.size 0 0 emptyB 0 (.slice none 0 0)).heap[w.heap.size]? = some (nodO 0 0 emptyB 0 (.slice none 0 0)):=set5_row (unhide R4) _ _ _ _ _
 exact bodyPost_ret (v:=nodV 0 0 emptyB 0 (.slice none 0 0)) (res_nodR Tryz.results91 _ _ w.heap.size _ _ _ _ _ rfl hrowF) rfl (rnode_end (l:=[]) hg (unhide S4) (unhide G4) (Nat.le_refl _) trivial (fun e => absurd e (unhide HE)))
end Go.Proofs.YtgkdmgndebifiaaGreatDoor
namespace Go.Proofs.YtgkdmgndebifiaaGreatDoor
open Go.RowKit
variable {w w':World} {g len:Nat} {T:List Tk} {wd:Int} {st:PS}
theorem first_r (f:Nat) (ex:Rdr) (hge:GoodR ex) (hse:Shorter ex) (hf:st.ts.length < f) (hf2:f ≤ 100000) (hex:∀ s:PS,s.ts.length < st.ts.length → RIs g len T wd 1 ex s) (h0:st.e = 0) (h:Rp w g len T wd st) :
  Calls Tryz.prog 91 #[.pointer (some ⟨g,0,none⟩)] w (RNode w g len T wd (sglP len ex f st)):=by
 by_cases h3:(hdT st.ts 0).k = 3
 ·exact first_3 f ex h0 h3 h
 by_cases h4:(hdT st.ts 0).k = 4
 ·exact first_4 f ex h0 h4 h
 by_cases h5:(hdT st.ts 0).k = 5
 ·exact first_5 f ex h0 h5 h
 by_cases h1:(hdT st.ts 0).k = 1
 ·cases hc:st.isCall
  ·exact first_var f ex h0 h1 hc h
  ·exact first_call f ex hge hse hf hf2 hex h0 h1 hc h
 cases hW:st.isW ⟨#[110,105,108]⟩
 ·cases hS0:st.isS ⟨#[40]⟩
  ·cases hS:st.isS ⟨#[91]⟩
   ·exact first_none f ex h0 h1 h3 h4 h5 hW hS0 hS h
   ·exact first_list f ex hge hse hf hf2 hex h0 hS h
  ·exact first_par f ex hge hse hf hf2 hex h0 hS0 h
 ·exact first_nil f ex h0 hW h
theorem rsgn (f:Nat) (hf2:f + 1 ≤ 100000) (sg ex:Rdr) (hgs:GoodR sg) (hge:GoodR ex) (hse:Shorter ex) (h6:∀ s:PS,s.ts.length < f → RIs g len T wd 6 sg s) (h1:∀ s:PS,s.ts.length < f → RIs g len T wd 1 ex s) (st:PS) (hl:st.ts.length < f + 1):RIs g len T wd 6 (sgnP len sg ex (f + 1)) st:=by
 intro W x
 refine lev6_r (sgnP len sg ex (f + 1)) (sgn_kp hgs hge (f + 1)) (fun W2 x2 h0 => ?_) x
 refine ahead_r (f + 1) sg ex hgs hge h0 (fun W3 x3 => ?_) (fun s hs => h6 s (by omega)) x2
 exact lev7_r (f + 1) ex hge hse hl (fun W4 x4 => first_r (f + 1) ex hge hse hl hf2 (fun s hs => h1 s (by omega)) h0 x4) (fun s hs => h1 s (by omega)) x3
theorem rlevels (f:Nat) (sg:Rdr) (hgs:GoodR sg) (hss:Shorter sg) (h6:∀ s:PS,s.ts.length < f → RIs g len T wd 6 sg s) (st:PS) (hl:st.ts.length < f):RIs g len T wd 1 (orP sg f) st:=by
 have h5:∀ s:PS,s.ts.length < f → RIs g len T wd 5 (prdP sg f) s:=fun s hs W x => lev5_r f sg hgs hss hs (fun s2 h2 => h6 s2 (by omega)) x
 have h4:∀ s:PS,s.ts.length < f → RIs g len T wd 4 (sumP sg f) s:=fun s hs W x => lev4_r f (prdP sg f) (prd_kp hgs f) (prd_le hss f) hs (fun s2 h2 => h5 s2 (by omega)) x
 have h3:∀ s:PS,s.ts.length < f → RIs g len T wd 3 (cmpP (sumP sg f)) s:=fun s hs W x => lev3_r f (sumP sg f) (sum_kp hgs f) (sum_le hss f) hs (fun s2 h2 => h4 s2 (by omega)) x
 have h2:∀ s:PS,s.ts.length < f → RIs g len T wd 2 (botP sg f) s:=fun s hs W x => lev2_r f (cmpP (sumP sg f)) (cmp_kp (sum_kp hgs f)) (cmp_le (sum_le hss f)) hs (fun s2 h2 => h3 s2 (by omega)) x
 exact fun W x => lev1_r f (botP sg f) (bot_kp hgs f) (bot_le hss f) hl (fun s2 h9 => h2 s2 (by omega)) x
theorem rboth (f:Nat):f ≤ 100000 → (∀ s:PS,s.ts.length < f → RIs g len T wd 6 (bothP len f).1 s) ∧ (∀ s:PS,s.ts.length < f → RIs g len T wd 1 (bothP len f).2 s):=by
 induction f with
 | zero => exact fun _ => ⟨fun s h => absurd h (Nat.not_lt_zero _),fun s h => absurd h (Nat.not_lt_zero _)⟩
 | succ f ih =>
  intro hf
  obtain ⟨h6,h1⟩:=ih (Nat.le_trans (Nat.le_succ f) hf)
  obtain ⟨k1,k2⟩:=both_kp len f
  obtain ⟨l1,l2⟩:=both_le len f
  have h:∀ s:PS,s.ts.length < f + 1 → RIs g len T wd 6 (sgnP len (bothP len f).1 (bothP len f).2 (f + 1)) s:=fun s hs => rsgn f hf (bothP len f).1 (bothP len f).2 k1 k2 l2 h6 h1 s hs
  have e1:(bothP len (f + 1)).1 = sgnP len (bothP len f).1 (bothP len f).2 (f + 1):=by rw [bothP]
  have e2:(bothP len (f + 1)).2 = orP (sgnP len (bothP len f).1 (bothP len f).2 (f + 1)) (f + 1):=by rw [bothP]
  rw [e1,e2]
  exact ⟨h,fun s hs => rlevels (f + 1) (sgnP len (bothP len f).1 (bothP len f).2 (f + 1)) (sgn_kp k1 k2 (f + 1)) (sgn_le l1 l2 (f + 1)) h s hs⟩
theorem rex (f:Nat) (hf:f ≤ 100000) (s:PS) (hs:s.ts.length < f):RIs g len T wd 1 (exP len f) s:=(rboth f hf).2 s hs
end Go.Proofs.YtgkdmgndebifiaaGreatDoor
namespace Go.Proofs.YtgkdmgndebifiaaGreatDoor
open Go.RowKit
variable {w w':World} {g len:Nat} {T:List Tk} {wd:Int} {st:PS}
set_option maxHeartbeats 4000000 in
theorem name_r (h:Rp w g len T wd st):Calls Tryz.prog 32 #[.pointer (some ⟨g,0,none⟩)] w (RAns w g len T wd (.string (st.name len).1) (st.name len).2):=by
 have hg:=h.lt
 have htl:=h.tl
 have HF:=hide (fun (W:World) (x:Rp W g len T wd st) => fail_r x 10 (by decide))
 have H:=hide h
 by_cases h0:st.e = 0
 ·have HK:=hide (kind_r h h0)
  by_cases hk:(hdT st.ts 0).k = 1
  ·rcases h.hd h0 with ⟨hn,_⟩ | ⟨b,off,cap,i,pl,x,r,hx,hi,hd,h1,hb,hcc,hcm,p0,p1,p2,p3,-⟩
   ·rw [hd_nil hn] at hk;exact absurd hk (by decide)
   have e1:st.name len = (x.t,st.next):=by unfold PS.name;rw [if_pos hk,hd_cons hx]
   rw [e1]
   rw [hk] at HK
   obtain ⟨i2,ci,hi2,hstep⟩:=h.step h0 (by rw [hx];simp)
   obtain ⟨c0,c1,c2,c3,c4,c5,c6,zf⟩:=rp_c h1
   obtain rfl:i = i2:=by
    rw [c1] at ci
    injection ci with ci
    injection ci with _ ci
    omega
   have HS:=hide hstep
   have H1:=hide h1
   have hbg:(b == g) = false:=by simp;omega
   clear h1 h hd hx hstep ci e1 hk
   generalize T.length = N at *
   go_enter Tryz.func32,Tryz.ntmps32
   go_wp2_with (go_at_call 48;refine Calls.mono (unhide HK) ?_;rintro e w1 ⟨rfl,hw⟩;have X1:=hide hw;have hrg:=hw.row (unhide H1);obtain ⟨c0,c1,c2,c3,c4,c5,c6,zf⟩:=rp_c hrg;have p1:=hw.cell p1;clear hw hrg)
   obtain ⟨W1,hW1⟩:∃ W1,W1 = w1.setCell ⟨g,1,none⟩ (.int .i64 ((i:Int) + 1)):=⟨_,rfl⟩
   rw [← hW1]
   have hS1:Rp W1 g len T wd st.next:=by rw [hW1];exact unhide HS w1 (Gr.of (unhide X1)) ((unhide X1).block g hg)
   have hG1:Gr g w1 W1:=by rw [hW1];exact (Gr.refl _ _).set (p:=⟨g,_,none⟩) (Or.inr rfl) _
   have hrg:W1.heap[g]? = some (rpO (.slice (some ⟨b,off,none⟩) N cap) (i + 1) 0 pl st.op len wd):=by rw [hW1];exact row_set ((unhide X1).row (unhide H1)) 1 _
   have p1:=hG1.cell p1 (by omega)
   clear c0 c1 c2 c3 c4 c5 c6 zf
   obtain ⟨c0,c1,c2,c3,c4,c5,c6,zf⟩:=rp_c hrg
   have hi1:(((i + 1:Nat):Int)) = (i:Int) + 1:=by omega
   rw [hi1] at c1
   have HW:Nonempty (RGw W1):=⟨⟨W1,Ext.refl _⟩⟩
   have k0:∀ y:RGw W1,y.w.cell? ⟨g,0,none⟩ = some (.slice (some ⟨b,off,none⟩) N cap):=fun y => y.h.cell c0
   have k1:∀ y:RGw W1,y.w.cell? ⟨g,1,none⟩ = some (.int .i64 ((i:Int) + 1)):=fun y => y.h.cell c1
   have k2:∀ y:RGw W1,y.w.cell? ⟨b,off + i * 4 + 1,none⟩ = some (.string x.t):=fun y => y.h.cell p1
   have S1:=hide hS1
   have G1:=hide ((Gr.of (unhide X1)).trans hG1)
   clear hW1 hrg hS1 hG1 c0 c1 c2 c3 c4 c5 c6 zf p0 p1 p2 p3
   refine wp_region_rx (W:=W1) (by kernel_rfl) (by kernel_rfl) (Ext.refl _) ?_
   repeat (go_big_quiet_step (fail))
   refine wpQuiet_nil ?_
   rintro w2 ⟨n2,hn2⟩
   have hx2:Ext W1 w2:=hn2 ▸ n2.h
   clear hn2 n2
   go_wp2_with fail
   go_ret
   exact ⟨rfl,(unhide S1).ext hx2,(unhide G1).trans (Gr.of hx2)⟩
  ·have e1:st.name len = (emptyB,st.fail len 10):=by unfold PS.name;rw [if_neg hk]
   rw [e1]
   have hkb:((hdT st.ts 0).k == 1) = false:=by simpa using hk
   have hkb2:((hdT st.ts 0).k != 1) = true:=by rw [bne,hkb];rfl
   obtain ⟨V,i,pl,dp,h1,-⟩:=h.ex
   rw [h0] at h1
   obtain ⟨c0,c1,c2,c3,c4,c5,c6,zf⟩:=rp_c h1
   generalize (hdT st.ts 0).k = kd at *
   clear h1 h e1 hk
   go_enter Tryz.func32,Tryz.ntmps32
   go_wp2_with (first
    | (go_at_call 48;refine Calls.mono (unhide HK) ?_;rintro e w1 ⟨rfl,hw⟩;have X1:=hide hw;clear hw)
    | (have T9:=unhide X1;go_at_call 47;refine Calls.mono (unhide HF _ ((unhide H).ext T9)) ?_;rintro e w2 ⟨rfl,hr,hw⟩;have X2:=hide ((Gr.of T9).trans hw);have R2:=hide hr;clear hw hr T9))
   go_ret
   exact ⟨rfl,unhide R2,unhide X2⟩
 ·have e1:st.name len = (emptyB,st.fail len 10):=by unfold PS.name;rw [if_neg (by rw [hd_nil (h.nv.nil h0)];decide)]
  rw [e1]
  have he3:(st.e != 0) = true:=by simp [h0]
  have he2:(st.e == 0) = false:=by simpa using h0
  obtain ⟨V,i,pl,dp,h1,-⟩:=h.ex
  obtain ⟨c0,c1,c2,c3,c4,c5,c6,zf⟩:=rp_c h1
  clear h1 h e1 h0
  go_enter Tryz.func32,Tryz.ntmps32
  go_wp2_with (have T9:=unhide H;go_at_call 47;refine Calls.mono (unhide HF _ T9) ?_;rintro e w2 ⟨rfl,hr,hw⟩;have X2:=hide hw;have R2:=hide hr;clear hw hr T9)
  go_ret
  exact ⟨rfl,unhide R2,unhide X2⟩
end Go.Proofs.YtgkdmgndebifiaaGreatDoor
