/- An if with else,in the document's own reader. · An if with an if behind its else,in the document's own reader. · Statements,blocks and ifs of the document's own reader,tied together. · Blocks. -/
import Derived.Test.YtgkdmgndebifiaaGreatDoorZd22
import Derived.Test.YtgkdmgndebifiaaGreatDoorZd17
import Derived.Test.YtgkdmgndebifiaaGreatDoorZd21
import Derived.Test.YtgkdmgndebifiaaGreatDoorZd23
import Derived.Test.YtgkdmgndebifiaaGreatDoorZd20
set_option linter.unusedSimpArgs false
set_option linter.unusedVariables false
set_option maxRecDepth 10000
namespace Go.Proofs.YtgkdmgndebifiaaGreatDoor
open Go.RowKit
variable {w w':World} {g len:Nat} {T:List Tk} {wd:Int} {st:PS}
set_option maxHeartbeats 8000000 in
theorem branch_else (ex bl ch bo:Rdr) (hge:GoodR ex) (hgb:GoodR bl) (hex:RIs g len T wd 1 ex st.next) (hbl:RBlk g len T wd bl (ex st.next).2) (hbo:RBlk g len T wd bo (bl (ex st.next).2).2.next) (hE:(bl (ex st.next).2).2.isW ⟨#[101,108,115,101]⟩ = true) (hI:(bl (ex st.next).2).2.next.isW ⟨#[105,102]⟩ = false) (h0:st.e = 0) (hW:st.isW ⟨#[105,102]⟩ = true) (h:Rp w g len T wd st) :
  Calls Tryz.prog 63 #[.pointer (some ⟨g,0,none⟩)] w (RNode w g len T wd (choP ex bl (othP ch bo) st.next)):=by
 have hg:=h.lt
 have n1:=(next_kp h.nv).nv h.nv
 have n2:=(hge st.next n1).nv n1
 have HKS:=hgb (ex st.next).2 n2
 have n3:=HKS.nv n2
 have HWt:=hide (fun (W:World) (x:Rp W g len T wd st) => want_w x ⟨#[105,102]⟩ (by decide +kernel))
 have ew:st.word len ⟨#[105,102]⟩ = st.next:=by unfold PS.word;rw [hW];rfl
 rw [ew] at HWt
 have H:=hide h
 have HEx:=hide hex
 unfold RIs at HEx
 have HBl:=hide hbl
 unfold RBlk at HBl
 have HTe:=hide (fun (W:World) (x:Rp W g len T wd (bl (ex st.next).2).2) => take_yes x ⟨#[101,108,115,101]⟩ (by decide +kernel) hE)
 have hu2:(bl (ex st.next).2).2.e = 0:=by
  by_cases h9:(bl (ex st.next).2).2.e = 0
  ·exact h9
  ·exact absurd (n3.nil h9) (isW_ne hE)
 have hu1:(ex st.next).2.e = 0:=(HKS.ok hu2).1
 have hun:(bl (ex st.next).2).2.next.e = 0:=hu2
 have HIs:Hd (∀ W,Rp W g len T wd (bl (ex st.next).2).2.next → Calls Tryz.prog 49 #[.pointer (some ⟨g,0,none⟩),.string ⟨#[105,102]⟩] W fun e w' => e = .returned (.bool false) ∧ Ext W w'):=fun W x => by
  have:=is_r x hun ⟨#[105,102]⟩
  rw [isA_W x hun (by decide +kernel),hI] at this
  exact this
 have HBo:=hide hbo
 unfold RBlk at HBo
 obtain ⟨RS,hRS⟩:∃ RS,RS = choP ex bl (othP ch bo) st.next:=⟨_,rfl⟩
 rw [← hRS]
 have hRS:RS = (⟨3,0,emptyB,0,[(ex st.next).1,(bl (ex st.next).2).1,(bo (bl (ex st.next).2).2.next).1]⟩,(bo (bl (ex st.next).2).2.next).2):=by rw [hRS];unfold choP;rw [hE];unfold othP;rw [hI];rfl
 rw [hRS]
 clear h hex hge hgb hbl n1 n2 ew hRS
 generalize ex st.next = q1 at *
 obtain ⟨qn,u1⟩:=q1
 simp only at *
 generalize bl u1 = q2 at *
 obtain ⟨qm,u2⟩:=q2
 simp only at *
 clear hbo hE hI HKS
 generalize bo u2.next = q3 at *
 obtain ⟨ql,u3⟩:=q3
 simp only at *
 obtain ⟨i0,hi,hz0,hz1,hz2⟩:=info_parts infoN
 have HIN:=hide hi
 have Z0:=hide hz0
 have Z1:=hide hz1
 have Z2:=hide hz2
 clear hi hz0 hz1 hz2
 have hwg:(w.heap.size == g) = false:=by simp;omega
 go_enter Tryz.func63,Tryz.ntmps63
 go_wp2_with (first
  | (have T9:=unhide H;go_at_call 31;refine Calls.mono (unhide HWt _ (T9.ext (Ext.alloc _ _))) ?_;rintro e w1 ⟨rfl,hs,hw⟩;have S1:=hide hs;have G1:=hide ((Gr.of (Ext.alloc w _)).trans hw);have R1:=hide (hw.row (Go.heap_alloc_new w _) (by omega));clear hw hs T9 H)
  | (have T9:=unhide S1;go_at_call 64;refine Calls.mono (unhide HEx _ T9) ?_;rintro e w2 ⟨v,p5,rfl,hr,hp,hs,hw⟩;obtain ⟨k2,o2,s2,n2,l2⟩:=p5;rw [RepN] at hr;obtain ⟨a2,cap2,rfl,hcap2,hl3⟩:=hr;have N3:=hide (NS.make (k:=k2) (o:=o2) (n2:=n2) (s:=s2) hg (unhide R1) (unhide G1) hs hw hl3 hcap2 3 emptyB);have P5:=hide hp;clear hw hs hl3 hp T9 S1 R1 G1))
 refine gen_world (F:=fun W => Code.wp _ _ _ _ W) ?_
 intro W9 hW9
 have N40:NS g len T wd w W9 (w2.heap.size + 1) u1 3 emptyB [⟨k2,o2,s2,n2,l2⟩] 1 (some ⟨w2.heap.size,0,none⟩) 1:=by rw [hW9];exact unhide N3
 obtain ⟨nA,hnA,N4⟩:∃ m,m ≤ 1 ∧ NS g len T wd w W9 (w2.heap.size + 1) u1 3 emptyB [⟨k2,o2,s2,n2,l2⟩] m (some ⟨w2.heap.size,0,none⟩) 1:=⟨_,Nat.le_refl _,N40⟩
 have N4:=hide N4
 clear N40 hW9 N3
 obtain ⟨xsa,hxs⟩:=(unhide N4).own
 have HXSa:=hide hxs
 clear hxs
 have d0:W9.cell? ⟨(w2.heap.size + 1),0,none⟩ = some (.int .i64 3):=rowC (unhide N4).r3 0 rfl
 have d1:W9.cell? ⟨(w2.heap.size + 1),1,none⟩ = some (.int .i64 0):=rowC (unhide N4).r3 1 rfl
 have d2:W9.cell? ⟨(w2.heap.size + 1),2,none⟩ = some (.string emptyB):=rowC (unhide N4).r3 2 rfl
 have d3:W9.cell? ⟨(w2.heap.size + 1),3,none⟩ = some (.int .i64 0):=rowC (unhide N4).r3 3 rfl
 have d4:W9.cell? ⟨(w2.heap.size + 1),4,none⟩ = some (.slice (some ⟨w2.heap.size,0,none⟩) nA 1):=rowC (unhide N4).r3 4 rfl
 have dz:=rowF (unhide N4).r3
 have hlta:=(unhide N4).lt
 have hBBa:=(unhide N4).hB
 have hgga:=(unhide N4).hg
 have D0a:Hd (Gr g W9 W9.drew):=(Gr.refl _ _).drew
 have D1a:Hd (Rp W9.drew g len T wd u1):=(unhide N4).rs.ext (Ext.drew (Ext.refl _))
 have hne1:(w2.heap.size + 1 == g) = false:=by simp;omega
 have hne2:(w.heap.size == w2.heap.size + 1) = false:=by simp;omega
 have HBa:=hide (unhide HBl _ (unhide D1a))
 refine wp_nrm ?_
 first | skip;go_region_law (first
  | (refine step_call_one rfl 34 (.tmp 13) 52 rfl _ (by simp [Act.eval,Act.put]) (enterRBlk _ _) (Calls.mono (unhide HBa) ?_);rintro e w6a ⟨v,p6,rfl,hr,hp,hs,hw⟩;obtain ⟨k3a,o3a,s3a,n3a,l3a⟩:=p6;rw [RepN] at hr;obtain ⟨a3a,c3a,rfl,hcap3a,hl⟩:=hr;have X6a:=hide ((unhide D0a).trans hw);have RG:=hide ((unhide X6a).row (unhide N4).r3 (by omega));have d0:=rowC (unhide RG) 0 rfl;have d1:=rowC (unhide RG) 1 rfl;have d2:=rowC (unhide RG) 2 rfl;have d3:=rowC (unhide RG) 3 rfl;have d4:=rowC (unhide RG) 4 rfl;have dz:=rowF (unhide RG);have S6a:=hide hs;have P6a:=hide hp;have L6a:Hd (RepNL w6a (Fr W9.heap.size w6a.heap.size) l3a a3a):=hl;have hz6a:W9.heap.size ≤ w6a.heap.size:=hw.size;have hb6a:(w2.heap.size + 1) < w6a.heap.size:=(Array.getElem?_eq_some_iff.1 (unhide RG)).1;clear hw hs hl hp;refine ⟨_,rfl,?_⟩)
  | (refine step_append_where rfl (.tmp 12) (.tmp 15) 27 rfl (w.heap.size + 1) 29 i0 (nodV 0 0 emptyB 0 (.slice none 0 0)) 5 64 Tryz.underlying27 (unhide HIN) (unhide Z0) (unhide Z1) (unhide Z2) rfl (by decide) (some ⟨w2.heap.size,0,none⟩) nA 1 xsa (by simp [Act.eval,Act.put]) (unhide HXSa _ ((unhide X6a).alloc _)).1 ⟨w6a.heap.size,0,none⟩ 1 1 [.int .i64 k3a,.int .i64 o3a,.string s3a,.int .i64 n3a,.slice a3a l3a.length c3a] (by simp [Act.eval,Act.put]) (by decide) rfl (cells_new w6a _ _) (one_cells _ _ _ _ _ _ _) (by unfold maxLen;omega) (by omega) (by simp;omega) ?_;intro g2a cap7a w7a ho7 hg7 hw7;have RZ:=hide ((unhide N4).grown ((unhide X6a).alloc _) hg7);have z0:=rowC (unhide RZ) 0 rfl;have z1:=rowC (unhide RZ) 1 rfl;have z2:=rowC (unhide RZ) 2 rfl;have z3:=rowC (unhide RZ) 3 rfl;have z4:=rowC (unhide RZ) 4 rfl;have zz:=rowF (unhide RZ);have HO7a:=hide ho7;have HG7a:=hide hg7;have HW7a:=hide hw7;clear ho7 hg7 hw7)) | fail
 all_goals
  refine nrm_inB ?_
  have N5:=hide (NS.snocA (k:=k3a) (o:=o3a) (n2:=n3a) (s:=s3a) (unhide N4) (unhide X6a) (unhide S6a) hcap3a (unhide L6a) _ (unhide HXSa _ ((unhide X6a).alloc _)) (unhide HO7a) (unhide HG7a) (unhide HW7a))
  clear d0 d1 d2 d3 d4 dz
  go_wp2_with (first
   | (have T9:=unhide N5;go_at_call 33;refine Calls.mono (unhide HTe _ T9.rs) ?_;rintro e w8 ⟨rfl,hs,hw⟩;have N6:=hide (T9.go hs hw);clear hw hs T9 N5)
   | (have T9:=unhide N6;go_at_call 49;refine Calls.mono (unhide HIs _ T9.rs) ?_;rintro e w9 ⟨rfl,hw⟩;have N7:=hide (T9.ext hw);clear hw T9 N6))
  obtain ⟨xsb,hxs⟩:=(unhide N7).own
  have HXSb:=hide hxs
  clear hxs
  have d0:w9.cell? ⟨(w2.heap.size + 1),0,none⟩ = some (.int .i64 3):=rowC (unhide N7).r3 0 rfl
  have d1:w9.cell? ⟨(w2.heap.size + 1),1,none⟩ = some (.int .i64 0):=rowC (unhide N7).r3 1 rfl
  have d2:w9.cell? ⟨(w2.heap.size + 1),2,none⟩ = some (.string emptyB):=rowC (unhide N7).r3 2 rfl
  have d3:w9.cell? ⟨(w2.heap.size + 1),3,none⟩ = some (.int .i64 0):=rowC (unhide N7).r3 3 rfl
  have d4:w9.cell? ⟨(w2.heap.size + 1),4,none⟩ = some (.slice (some ⟨g2a,0,none⟩) (nA + 1) cap7a):=rowC (unhide N7).r3 4 rfl
  have dz:=rowF (unhide N7).r3
  have hltb:=(unhide N7).lt
  have hBBb:=(unhide N7).hB
  have hggb:=(unhide N7).hg
  have D0b:Hd (Gr g w9 w9.drew):=(Gr.refl _ _).drew
  have D1b:Hd (Rp w9.drew g len T wd u2.next):=(unhide N7).rs.ext (Ext.drew (Ext.refl _))
  have HBb:=hide (unhide HBo _ (unhide D1b))
  refine wp_nrm ?_
  first | skip;go_region_law (first
   | (refine step_call_one rfl 34 (.tmp 37) 52 rfl _ (by simp [Act.eval,Act.put]) (enterRBlk _ _) (Calls.mono (unhide HBb) ?_);rintro e w6b ⟨v,p6,rfl,hr,hp,hs,hw⟩;obtain ⟨k3b,o3b,s3b,n3b,l3b⟩:=p6;rw [RepN] at hr;obtain ⟨a3b,c3b,rfl,hcap3b,hl⟩:=hr;have X6b:=hide ((unhide D0b).trans hw);have RG:=hide ((unhide X6b).row (unhide N7).r3 (by omega));have d0:=rowC (unhide RG) 0 rfl;have d1:=rowC (unhide RG) 1 rfl;have d2:=rowC (unhide RG) 2 rfl;have d3:=rowC (unhide RG) 3 rfl;have d4:=rowC (unhide RG) 4 rfl;have dz:=rowF (unhide RG);have S6b:=hide hs;have P6b:=hide hp;have L6b:Hd (RepNL w6b (Fr w9.heap.size w6b.heap.size) l3b a3b):=hl;have hz6b:w9.heap.size ≤ w6b.heap.size:=hw.size;have hb6b:(w2.heap.size + 1) < w6b.heap.size:=(Array.getElem?_eq_some_iff.1 (unhide RG)).1;clear hw hs hl hp;refine ⟨_,rfl,?_⟩)
   | (refine step_append_where rfl (.tmp 36) (.tmp 39) 27 rfl (w.heap.size + 1) 29 i0 (nodV 0 0 emptyB 0 (.slice none 0 0)) 5 64 Tryz.underlying27 (unhide HIN) (unhide Z0) (unhide Z1) (unhide Z2) rfl (by decide) (some ⟨g2a,0,none⟩) (nA + 1) cap7a xsb (by simp [Act.eval,Act.put]) (unhide HXSb _ ((unhide X6b).alloc _)).1 ⟨w6b.heap.size,0,none⟩ 1 1 [.int .i64 k3b,.int .i64 o3b,.string s3b,.int .i64 n3b,.slice a3b l3b.length c3b] (by simp [Act.eval,Act.put]) (by decide) rfl (cells_new w6b _ _) (one_cells _ _ _ _ _ _ _) (by unfold maxLen;omega) (by omega) (by simp;omega) ?_;intro g2b cap7b w7b ho7 hg7 hw7;have RZ:=hide ((unhide N7).grown ((unhide X6b).alloc _) hg7);have z0:=rowC (unhide RZ) 0 rfl;have z1:=rowC (unhide RZ) 1 rfl;have z2:=rowC (unhide RZ) 2 rfl;have z3:=rowC (unhide RZ) 3 rfl;have z4:=rowC (unhide RZ) 4 rfl;have zz:=rowF (unhide RZ);have HO7b:=hide ho7;have HG7b:=hide hg7;have HW7b:=hide hw7;clear ho7 hg7 hw7)) | fail
  all_goals
   refine nrm_inB ?_
   have N8:=hide (NS.snocA (k:=k3b) (o:=o3b) (n2:=n3b) (s:=s3b) (unhide N7) (unhide X6b) (unhide S6b) hcap3b (unhide L6b) _ (unhide HXSb _ ((unhide X6b).alloc _)) (unhide HO7b) (unhide HG7b) (unhide HW7b))
   have r0:=rowC (unhide N8).r2 0 rfl
   have r1:=rowC (unhide N8).r2 1 rfl
   have r2:=rowC (unhide N8).r2 2 rfl
   have r3:=rowC (unhide N8).r2 3 rfl
   have r4:=rowC (unhide N8).r2 4 rfl
   have rz:=rowF (unhide N8).r2
   have q0:=rowC (unhide N8).r3 0 rfl
   have q1:=rowC (unhide N8).r3 1 rfl
   have q2:=rowC (unhide N8).r3 2 rfl
   have q3:=rowC (unhide N8).r3 3 rfl
   have q4:=rowC (unhide N8).r3 4 rfl
   have qz:=rowF (unhide N8).r3
   go_wp2_with fail
   exact bodyPost_ret (v:=nodV 3 0 emptyB 0 (.slice (some ⟨g2b,0,none⟩) (nA + 1 + 1) cap7b)) (res_nodR Tryz.results63 _ _ w.heap.size _ _ _ _ _ rfl (unhide N8).end) rfl ((unhide N8).fin (fun e => by rw [unhide P5 hu1,unhide P6a hu2,unhide P6b e];rfl))
end Go.Proofs.YtgkdmgndebifiaaGreatDoor
namespace Go.Proofs.YtgkdmgndebifiaaGreatDoor
open Go.RowKit
variable {w w':World} {g len:Nat} {T:List Tk} {wd:Int} {st:PS}
theorem cells_new3 (w:World) (o o2:Obj) (cs:Array Value) (t:TypeId):∀ j u,cs.toList[j]? = some u → (((w.alloc o).alloc o2).alloc (.cells cs t)).cell? ((⟨w.heap.size + 2,0,none⟩:Addr).add j) = some u:=by
 have h:=cells_new ((w.alloc o).alloc o2) cs t
 rw [size_alloc,size_alloc] at h
 exact h
theorem elif_rep {w7 w8:World} {k o n2:Int} {s:ByteArray} {l:List PN} {a:Option Addr} {c:Nat} {o1 o3:Obj} (hc:l.length ≤ c) (hl:RepNL w8 (Fr w7.heap.size w8.heap.size) l a) (hz:w7.heap.size ≤ w8.heap.size) :
  RepNL (((w8.alloc o1).alloc (nodO k o s n2 (.slice a l.length c))).alloc o3) (Fr w7.heap.size (((w8.alloc o1).alloc (nodO k o s n2 (.slice a l.length c))).alloc o3).heap.size) [⟨k,o,s,n2,l⟩] (some ⟨w8.heap.size + 1,0,none⟩):=by
 have hn:=Go.heap_alloc_new (w8.alloc o1) (nodO k o s n2 (.slice a l.length c))
 rw [size_alloc] at hn
 have hsz:(((w8.alloc o1).alloc (nodO k o s n2 (.slice a l.length c))).alloc o3).heap.size = w8.heap.size + 3:=by rw [size_alloc,size_alloc,size_alloc]
 refine one_repR ((Ext.alloc _ _).row hn) ⟨by omega,by rw [hsz];omega⟩ hc (RepNL.to (fun b hb => ?_) _ _ hl)
 have h1:=hb.1
 have h2:=hb.2
 exact ⟨⟨h1,by rw [hsz];omega⟩,(((Ext.alloc _ _).trans (Ext.alloc _ _)).trans (Ext.alloc _ _)).block b h2⟩
set_option maxHeartbeats 8000000 in
theorem branch_elif (ex bl ch bo:Rdr) (hge:GoodR ex) (hgb:GoodR bl) (hex:RIs g len T wd 1 ex st.next) (hbl:RBlk g len T wd bl (ex st.next).2) (hbr:RBrn g len T wd ch (bl (ex st.next).2).2.next) (hE:(bl (ex st.next).2).2.isW ⟨#[101,108,115,101]⟩ = true) (hI:(bl (ex st.next).2).2.next.isW ⟨#[105,102]⟩ = true) (h0:st.e = 0) (hW:st.isW ⟨#[105,102]⟩ = true) (h:Rp w g len T wd st) :
  Calls Tryz.prog 63 #[.pointer (some ⟨g,0,none⟩)] w (RNode w g len T wd (choP ex bl (othP ch bo) st.next)):=by
 have hg:=h.lt
 have n1:=(next_kp h.nv).nv h.nv
 have n2:=(hge st.next n1).nv n1
 have HKS:=hgb (ex st.next).2 n2
 have n3:=HKS.nv n2
 have HWt:=hide (fun (W:World) (x:Rp W g len T wd st) => want_w x ⟨#[105,102]⟩ (by decide +kernel))
 have ew:st.word len ⟨#[105,102]⟩ = st.next:=by unfold PS.word;rw [hW];rfl
 rw [ew] at HWt
 have H:=hide h
 have HEx:=hide hex
 unfold RIs at HEx
 have HBl:=hide hbl
 unfold RBlk at HBl
 have HTe:=hide (fun (W:World) (x:Rp W g len T wd (bl (ex st.next).2).2) => take_yes x ⟨#[101,108,115,101]⟩ (by decide +kernel) hE)
 have hu2:(bl (ex st.next).2).2.e = 0:=by
  by_cases h9:(bl (ex st.next).2).2.e = 0
  ·exact h9
  ·exact absurd (n3.nil h9) (isW_ne hE)
 have hu1:(ex st.next).2.e = 0:=(HKS.ok hu2).1
 have hun:(bl (ex st.next).2).2.next.e = 0:=hu2
 have HIs:Hd (∀ W,Rp W g len T wd (bl (ex st.next).2).2.next → Calls Tryz.prog 49 #[.pointer (some ⟨g,0,none⟩),.string ⟨#[105,102]⟩] W fun e w' => e = .returned (.bool true) ∧ Ext W w'):=fun W x => by
  have:=is_r x hun ⟨#[105,102]⟩
  rw [isA_W x hun (by decide +kernel),hI] at this
  exact this
 have HBr:Hd (∀ W,Rp W g len T wd (bl (ex st.next).2).2.next → Calls Tryz.prog 63 #[.pointer (some ⟨g,0,none⟩)] W (RNode W g len T wd (ch (bl (ex st.next).2).2.next.next))):=fun W x => hbr W x hun hI
 obtain ⟨RS,hRS⟩:∃ RS,RS = choP ex bl (othP ch bo) st.next:=⟨_,rfl⟩
 rw [← hRS]
 have hRS:RS = (⟨3,0,emptyB,0,[(ex st.next).1,(bl (ex st.next).2).1,⟨10,0,emptyB,0,[(ch (bl (ex st.next).2).2.next.next).1]⟩]⟩,(ch (bl (ex st.next).2).2.next.next).2):=by rw [hRS];unfold choP;rw [hE];unfold othP;rw [hI];rfl
 rw [hRS]
 clear h hex hge hgb hbl n1 n2 ew hRS
 generalize ex st.next = q1 at *
 obtain ⟨qn,u1⟩:=q1
 simp only at *
 generalize bl u1 = q2 at *
 obtain ⟨qm,u2⟩:=q2
 simp only at *
 clear hbr hE hI HKS
 generalize ch u2.next.next = q3 at *
 obtain ⟨ql,u3⟩:=q3
 simp only at *
 obtain ⟨i0,hi,hz0,hz1,hz2⟩:=info_parts infoN
 have HIN:=hide hi
 have Z0:=hide hz0
 have Z1:=hide hz1
 have Z2:=hide hz2
 clear hi hz0 hz1 hz2
 have hwg:(w.heap.size == g) = false:=by simp;omega
 go_enter Tryz.func63,Tryz.ntmps63
 go_wp2_with (first
  | (have T9:=unhide H;go_at_call 31;refine Calls.mono (unhide HWt _ (T9.ext (Ext.alloc _ _))) ?_;rintro e w1 ⟨rfl,hs,hw⟩;have S1:=hide hs;have G1:=hide ((Gr.of (Ext.alloc w _)).trans hw);have R1:=hide (hw.row (Go.heap_alloc_new w _) (by omega));clear hw hs T9 H)
  | (have T9:=unhide S1;go_at_call 64;refine Calls.mono (unhide HEx _ T9) ?_;rintro e w2 ⟨v,p5,rfl,hr,hp,hs,hw⟩;obtain ⟨k2,o2,s2,n2,l2⟩:=p5;rw [RepN] at hr;obtain ⟨a2,cap2,rfl,hcap2,hl3⟩:=hr;have N3:=hide (NS.make (k:=k2) (o:=o2) (n2:=n2) (s:=s2) hg (unhide R1) (unhide G1) hs hw hl3 hcap2 3 emptyB);have P5:=hide hp;clear hw hs hl3 hp T9 S1 R1 G1))
 refine gen_world (F:=fun W => Code.wp _ _ _ _ W) ?_
 intro W9 hW9
 have N40:NS g len T wd w W9 (w2.heap.size + 1) u1 3 emptyB [⟨k2,o2,s2,n2,l2⟩] 1 (some ⟨w2.heap.size,0,none⟩) 1:=by rw [hW9];exact unhide N3
 obtain ⟨nA,hnA,N4⟩:∃ m,m ≤ 1 ∧ NS g len T wd w W9 (w2.heap.size + 1) u1 3 emptyB [⟨k2,o2,s2,n2,l2⟩] m (some ⟨w2.heap.size,0,none⟩) 1:=⟨_,Nat.le_refl _,N40⟩
 have N4:=hide N4
 clear N40 hW9 N3
 obtain ⟨xsa,hxs⟩:=(unhide N4).own
 have HXSa:=hide hxs
 clear hxs
 have d0:W9.cell? ⟨(w2.heap.size + 1),0,none⟩ = some (.int .i64 3):=rowC (unhide N4).r3 0 rfl
 have d1:W9.cell? ⟨(w2.heap.size + 1),1,none⟩ = some (.int .i64 0):=rowC (unhide N4).r3 1 rfl
 have d2:W9.cell? ⟨(w2.heap.size + 1),2,none⟩ = some (.string emptyB):=rowC (unhide N4).r3 2 rfl
 have d3:W9.cell? ⟨(w2.heap.size + 1),3,none⟩ = some (.int .i64 0):=rowC (unhide N4).r3 3 rfl
 have d4:W9.cell? ⟨(w2.heap.size + 1),4,none⟩ = some (.slice (some ⟨w2.heap.size,0,none⟩) nA 1):=rowC (unhide N4).r3 4 rfl
 have dz:=rowF (unhide N4).r3
 have hlta:=(unhide N4).lt
 have hBBa:=(unhide N4).hB
 have hgga:=(unhide N4).hg
 have D0a:Hd (Gr g W9 W9.drew):=(Gr.refl _ _).drew
 have D1a:Hd (Rp W9.drew g len T wd u1):=(unhide N4).rs.ext (Ext.drew (Ext.refl _))
 have hne1:(w2.heap.size + 1 == g) = false:=by simp;omega
 have hne2:(w.heap.size == w2.heap.size + 1) = false:=by simp;omega
 have HBa:=hide (unhide HBl _ (unhide D1a))
 refine wp_nrm ?_
 first | skip;go_region_law (first
  | (refine step_call_one rfl 34 (.tmp 13) 52 rfl _ (by simp [Act.eval,Act.put]) (enterRBlk _ _) (Calls.mono (unhide HBa) ?_);rintro e w6a ⟨v,p6,rfl,hr,hp,hs,hw⟩;obtain ⟨k3a,o3a,s3a,n3a,l3a⟩:=p6;rw [RepN] at hr;obtain ⟨a3a,c3a,rfl,hcap3a,hl⟩:=hr;have X6a:=hide ((unhide D0a).trans hw);have RG:=hide ((unhide X6a).row (unhide N4).r3 (by omega));have d0:=rowC (unhide RG) 0 rfl;have d1:=rowC (unhide RG) 1 rfl;have d2:=rowC (unhide RG) 2 rfl;have d3:=rowC (unhide RG) 3 rfl;have d4:=rowC (unhide RG) 4 rfl;have dz:=rowF (unhide RG);have S6a:=hide hs;have P6a:=hide hp;have L6a:Hd (RepNL w6a (Fr W9.heap.size w6a.heap.size) l3a a3a):=hl;have hz6a:W9.heap.size ≤ w6a.heap.size:=hw.size;have hb6a:(w2.heap.size + 1) < w6a.heap.size:=(Array.getElem?_eq_some_iff.1 (unhide RG)).1;clear hw hs hl hp;refine ⟨_,rfl,?_⟩)
  | (refine step_append_where rfl (.tmp 12) (.tmp 15) 27 rfl (w.heap.size + 1) 29 i0 (nodV 0 0 emptyB 0 (.slice none 0 0)) 5 64 Tryz.underlying27 (unhide HIN) (unhide Z0) (unhide Z1) (unhide Z2) rfl (by decide) (some ⟨w2.heap.size,0,none⟩) nA 1 xsa (by simp [Act.eval,Act.put]) (unhide HXSa _ ((unhide X6a).alloc _)).1 ⟨w6a.heap.size,0,none⟩ 1 1 [.int .i64 k3a,.int .i64 o3a,.string s3a,.int .i64 n3a,.slice a3a l3a.length c3a] (by simp [Act.eval,Act.put]) (by decide) rfl (cells_new w6a _ _) (one_cells _ _ _ _ _ _ _) (by unfold maxLen;omega) (by omega) (by simp;omega) ?_;intro g2a cap7a w7a ho7 hg7 hw7;have RZ:=hide ((unhide N4).grown ((unhide X6a).alloc _) hg7);have z0:=rowC (unhide RZ) 0 rfl;have z1:=rowC (unhide RZ) 1 rfl;have z2:=rowC (unhide RZ) 2 rfl;have z3:=rowC (unhide RZ) 3 rfl;have z4:=rowC (unhide RZ) 4 rfl;have zz:=rowF (unhide RZ);have HO7a:=hide ho7;have HG7a:=hide hg7;have HW7a:=hide hw7;clear ho7 hg7 hw7)) | fail
 all_goals
  refine nrm_inB ?_
  have N5:=hide (NS.snocA (k:=k3a) (o:=o3a) (n2:=n3a) (s:=s3a) (unhide N4) (unhide X6a) (unhide S6a) hcap3a (unhide L6a) _ (unhide HXSa _ ((unhide X6a).alloc _)) (unhide HO7a) (unhide HG7a) (unhide HW7a))
  clear d0 d1 d2 d3 d4 dz
  go_wp2_with (first
   | (have T9:=unhide N5;go_at_call 33;refine Calls.mono (unhide HTe _ T9.rs) ?_;rintro e w8 ⟨rfl,hs,hw⟩;have N6:=hide (T9.go hs hw);clear hw hs T9 N5)
   | (have T9:=unhide N6;go_at_call 49;refine Calls.mono (unhide HIs _ T9.rs) ?_;rintro e w9 ⟨rfl,hw⟩;have N7:=hide (T9.ext hw);obtain ⟨xsb,hxs⟩:=(unhide N7).own;have HXSb:=hide hxs;have hlt9:=(unhide N7).lt;clear hw T9 N6 hxs)
   | (have T9:=unhide N7;go_at_call 63;refine Calls.mono (unhide HBr _ T9.rs) ?_;rintro e w10 ⟨v,p7,rfl,hr,hp,hs,hw⟩;obtain ⟨k4,o4,s4,n4,l4⟩:=p7;rw [RepN] at hr;obtain ⟨a4,cap4,rfl,hcap4,hl4⟩:=hr;have X10:=hide hw;have S10:=hide hs;have P7:=hide hp;have L10:=hide hl4;have RG:=hide (hw.row T9.r3 (by omega));have d0:=rowC (unhide RG) 0 rfl;have d1:=rowC (unhide RG) 1 rfl;have d2:=rowC (unhide RG) 2 rfl;have d3:=rowC (unhide RG) 3 rfl;have d4:=rowC (unhide RG) 4 rfl;have dz:=rowF (unhide RG);have hb10:w2.heap.size + 1 < w10.heap.size:=(Array.getElem?_eq_some_iff.1 (unhide RG)).1;have hz10:w9.heap.size ≤ w10.heap.size:=hw.size;clear hw hs hl4 hp T9)
   | (at_builtin;refine wpList_append_where rfl (.tmp 27) (.tmp 31) 27 rfl (w.heap.size + 1) 29 i0 (nodV 0 0 emptyB 0 (.slice none 0 0)) 5 64 Tryz.underlying27 (unhide HIN) (unhide Z0) (unhide Z1) (unhide Z2) rfl (by decide) (some ⟨g2a,0,none⟩) (nA + 1) cap7a xsb rfl (unhide HXSb _ ((((unhide X10).alloc _).alloc _).alloc _)).1 ⟨w10.heap.size + 2,0,none⟩ 1 1 [.int .i64 10,.int .i64 0,.string emptyB,.int .i64 0,.slice (some ⟨w10.heap.size + 1,0,none⟩) 1 1] rfl (by decide) rfl (cells_new3 w10 _ _ _ _) (one_cells _ _ _ _ _ _ _) ?c1 ?c2 ?c3 ?_))
  case c1 => unfold maxLen;omega
  case c2 => omega
  case c3 => simp;omega
  intro g2b cap7b w11 ho7 hg7 hw7
  have N8:=hide (NS.snoc (k:=10) (o:=0) (n2:=0) (s:=emptyB) (l:=[⟨k4,o4,s4,n4,l4⟩]) (c:=1) (unhide N7) ((((unhide X10).alloc _).alloc _).alloc _) ((((unhide S10).ext (Ext.alloc _ _)).ext (Ext.alloc _ _)).ext (Ext.alloc _ _)) (Nat.le_refl _) (elif_rep hcap4 (unhide L10) hz10) (unhide HXSb _ ((((unhide X10).alloc _).alloc _).alloc _)) ho7 hg7 (by rw [size_alloc,size_alloc,size_alloc];exact hw7))
  have RZ:=hide ((unhide N7).grown ((((unhide X10).alloc _).alloc _).alloc _) hg7)
  have z0:=rowC (unhide RZ) 0 rfl
  have z1:=rowC (unhide RZ) 1 rfl
  have z2:=rowC (unhide RZ) 2 rfl
  have z3:=rowC (unhide RZ) 3 rfl
  have z4:=rowC (unhide RZ) 4 rfl
  have zz:=rowF (unhide RZ)
  have r0:=rowC (unhide N8).r2 0 rfl
  have r1:=rowC (unhide N8).r2 1 rfl
  have r2:=rowC (unhide N8).r2 2 rfl
  have r3:=rowC (unhide N8).r2 3 rfl
  have r4:=rowC (unhide N8).r2 4 rfl
  have rz:=rowF (unhide N8).r2
  have q0:=rowC (unhide N8).r3 0 rfl
  have q1:=rowC (unhide N8).r3 1 rfl
  have q2:=rowC (unhide N8).r3 2 rfl
  have q3:=rowC (unhide N8).r3 3 rfl
  have q4:=rowC (unhide N8).r3 4 rfl
  have qz:=rowF (unhide N8).r3
  clear ho7 hg7 hw7
  go_wp2_with fail
  exact bodyPost_ret (v:=nodV 3 0 emptyB 0 (.slice (some ⟨g2b,0,none⟩) (nA + 1 + 1) cap7b)) (res_nodR Tryz.results63 _ _ w.heap.size _ _ _ _ _ rfl (unhide N8).end) rfl ((unhide N8).fin (fun e => by rw [unhide P5 hu1,unhide P6a hu2,unhide P7 e];rfl))
end Go.Proofs.YtgkdmgndebifiaaGreatDoor
namespace Go.Proofs.YtgkdmgndebifiaaGreatDoor
open Go.RowKit
variable {w w':World} {g len:Nat} {T:List Tk} {wd:Int} {st:PS}
theorem stmt_r (ex bl ch:Rdr) (hge:GoodR ex) (hgb:GoodR bl) (hse:Shorter ex) (hex:∀ s:PS,s.ts.length ≤ st.ts.length → RIs g len T wd 1 ex s) (hbl:∀ s:PS,s.ts.length < st.ts.length → RBlk g len T wd bl s) (hbr:RBrn g len T wd ch st) (h0:st.e = 0) (h:Rp w g len T wd st) :
  Calls Tryz.prog 51 #[.pointer (some ⟨g,0,none⟩)] w (RNode w g len T wd (stmP len ex bl ch st)):=by
 have hex1:∀ s:PS,s.ts.length < st.ts.length → RIs g len T wd 1 ex s:=fun s hs => hex s (Nat.le_of_lt hs)
 cases w_let:st.isW ⟨#[108,101,116]⟩
 case true => exact stmt_let ex bl ch hge hex1 h0 w_let h
 cases hset:st.isSet
 case true => exact stmt_set ex bl ch hge hex1 h0 hset h
 cases w_if:st.isW ⟨#[105,102]⟩
 case true => exact stmt_if ex bl ch hbr h0 w_if h
 cases w_while:st.isW ⟨#[119,104,105,108,101]⟩
 case true => exact stmt_while ex bl ch hge hgb hse hex1 hbl h0 w_while h
 cases w_break:st.isW ⟨#[98,114,101,97,107]⟩
 case true => exact stmt_break ex bl ch h0 w_break h
 cases w_continue:st.isW ⟨#[99,111,110,116,105,110,117,101]⟩
 case true => exact stmt_continue ex bl ch h0 w_continue h
 cases w_return:st.isW ⟨#[114,101,116,117,114,110]⟩
 case true =>
  cases hsc:st.next.isS ⟨#[59]⟩
  ·exact stmt_return1 ex bl ch hge hex1 h0 w_return hsc h
  ·exact stmt_return0 ex bl ch h0 w_return hsc h
 cases w_print:st.isW ⟨#[112,114,105,110,116]⟩
 case true => exact stmt_print ex bl ch hge hex1 h0 w_print h
 exact stmt_do ex bl ch hge (hex st (Nat.le_refl _)) h0 hset w_if w_while w_let w_break w_continue w_return w_print h
theorem branch_r (ex bl ch bo:Rdr) (hge:GoodR ex) (hgb:GoodR bl) (hex:RIs g len T wd 1 ex st.next) (hbl:RBlk g len T wd bl (ex st.next).2) (hbr:(bl (ex st.next).2).2.ts ≠ [] → RBrn g len T wd ch (bl (ex st.next).2).2.next) (hbo:(bl (ex st.next).2).2.ts ≠ [] → RBlk g len T wd bo (bl (ex st.next).2).2.next) (h0:st.e = 0) (hW:st.isW ⟨#[105,102]⟩ = true) (h:Rp w g len T wd st) :
  Calls Tryz.prog 63 #[.pointer (some ⟨g,0,none⟩)] w (RNode w g len T wd (choP ex bl (othP ch bo) st.next)):=by
 cases hE:(bl (ex st.next).2).2.isW ⟨#[101,108,115,101]⟩
 ·exact branch_none ex bl ch bo hge hgb hex hbl hE h0 hW h
 ·cases hI:(bl (ex st.next).2).2.next.isW ⟨#[105,102]⟩
  ·exact branch_else ex bl ch bo hge hgb hex hbl (hbo (isW_ne hE)) hE hI h0 hW h
  ·exact branch_elif ex bl ch bo hge hgb hex hbl (hbr (isW_ne hE)) hE hI h0 hW h
theorem rsts (fe:Nat) (hfe:fe ≤ 100000) (f:Nat):f ≤ fe → (∀ s:PS,s.ts.length < f → RStm g len T wd (stsP len fe f).1 s) ∧ (∀ s:PS,s.ts.length < f → RBlk g len T wd (stsP len fe f).2.1 s) ∧ (∀ s:PS,s.ts.length ≤ f → RBrn g len T wd (stsP len fe f).2.2 s):=by
 induction f with
 | zero => exact fun _ => ⟨fun s h => absurd h (Nat.not_lt_zero _),fun s h => absurd h (Nat.not_lt_zero _),fun s h W x h0 hW => absurd (List.length_eq_zero_iff.1 (Nat.le_zero.1 h)) (isW_ne hW)⟩
 | succ f ih =>
  intro hf
  obtain ⟨h1,h2,h3⟩:=ih (Nat.le_trans (Nat.le_succ f) hf)
  obtain ⟨k1,k2,k3⟩:=sts_kp len fe f
  obtain ⟨l1,l2,l3⟩:=sts_le len fe f
  have hx:∀ s:PS,s.ts.length < fe → RIs g len T wd 1 (exP len fe) s:=fun s hs => rex fe hfe s hs
  have e1:(stsP len fe (f + 1)).1 = stmP len (exP len fe) (stsP len fe f).2.1 (stsP len fe f).2.2:=by rw [stsP]
  have e2:(stsP len fe (f + 1)).2.1 = blkP len (stsP len fe f).1 (f + 1):=by rw [stsP]
  have e3:(stsP len fe (f + 1)).2.2 = choP (exP len fe) (blkP len (stsP len fe f).1 (f + 1)) (othP (stsP len fe f).2.2 (stsP len fe f).2.1):=by rw [stsP]
  rw [e1,e2,e3]
  have hB:∀ s:PS,s.ts.length < f + 1 → RBlk g len T wd (blkP len (stsP len fe f).1 (f + 1)) s:=by
   intro s hs W x
   cases hS:s.isS ⟨#[123]⟩
   ·exact block_none (stsP len fe f).1 (f + 1) hS x
   ·have hne:=isS_ne hS
    have hp:=List.length_pos_iff.2 hne
    refine block_some (stsP len fe f).1 (f + 1) k1 hS hs (by omega) ?_ ?_ (fun t ht W2 x2 h0 => h1 t (by omega) W2 x2 h0) x
    ·obtain ⟨f',rfl⟩:∃ f',f = f' + 1:=⟨f - 1,by omega⟩
     obtain ⟨_,m2,m3⟩:=sts_le len fe f'
     intro t ht
     rw [stsP]
     exact stm_lt (ex_le len fe) m2 m3 ht
    ·obtain ⟨f',rfl⟩:∃ f',f = f' + 1:=⟨f - 1,by omega⟩
     obtain ⟨fe',rfl⟩:∃ f',fe = f' + 1:=⟨fe - 1,by omega⟩
     intro t he ht
     rw [stsP]
     exact stm_end (ex_end len fe') t he ht
  refine ⟨fun s hs W x h0 => ?_,hB,fun s hs W x h0 hW => ?_⟩
  ·exact stmt_r _ _ _ (ex_kp len fe) k2 (ex_le len fe) (fun t ht => hx t (by omega)) (fun t ht => h2 t (by omega)) (fun W2 x2 h9 hW => h3 s (by omega) W2 x2 h9 hW) h0 x
  ·have hne:=isW_ne hW
   have q1:s.next.ts.length < s.ts.length:=next_lt_of hne
   have q2:=ex_le len fe s.next
   have q3:=blk_le (len:=len) l1 (f + 1) ((exP len fe) s.next).2
   refine branch_r _ _ _ _ (ex_kp len fe) (blk_kp k1 (f + 1)) (hx s.next (by omega)) (hB _ (by omega)) (fun hn => ?_) (fun hn => ?_) h0 hW x
   ·have q4:=next_lt_of hn
    exact h3 _ (by omega)
   ·have q4:=next_lt_of hn
    exact h2 _ (by omega)
theorem rblk (f:Nat) (hf:f ≤ 100000) (s:PS) (hs:s.ts.length < f):RBlk g len T wd (stsP len f f).2.1 s:=(rsts f hf f (Nat.le_refl _)).2.1 s hs
end Go.Proofs.YtgkdmgndebifiaaGreatDoor
namespace Go.Proofs.YtgkdmgndebifiaaGreatDoor
open Go.RowKit
theorem BlkI.shut {g len:Nat} {sm:Rdr} {w wr w6:World} {F:List PN × PS} {stc st6:PS} {k:Nat} {acc:List PN} {ao:Option Addr} {cap:Nat} (h:BlkI g len sm w wr F stc k acc ao cap) (hg:g < w.heap.size) (X:Gr g wr w6) (S:St w6 g len st6) :
  Tree g len w (⟨10,0,emptyB,0,acc⟩,st6) (.returned (nodV 10 0 emptyB 0 (.slice ao acc.length cap))) (set5 w6 w.heap.size 10 0 emptyB 0 (.slice ao acc.length cap)):=by
 obtain ⟨d1,d2⟩:=(h.hold.on X (by omega)).done
 exact tree_end hg S (h.gr.trans X) d1 (RepNL.to (fun b hb => ⟨⟨by have:=hb.1;omega,hb.2⟩,rfl⟩) _ _ d2)
theorem enterStm (v:Value) (w:World):(callFunc 89 #[v]).run Tryz.prog w = .ok (.enter 89 #[v]) w:=by kernel_rfl
set_option maxHeartbeats 8000000 in
theorem blk_any (len g:Nat) (sm:Rdr) (f:Nat) (st:PS) (w:World) (hR:Rs w g len st) (hf:st.ts.length < f) (hf2:f ≤ 100000) (hlt:st.ts ≠ [] → ∀ s:PS,s.ts ≠ [] → (sm s).2.ts.length < s.ts.length)
  (hsm:∀ s:PS,s.ts.length < st.ts.length → ExIs g len 89 sm s w) :
  Calls Tryz.prog 61 #[.pointer (some ⟨g,0,none⟩)] w (Tree g len w (blkP len sm f st)):=by
 have hg:g < w.heap.size:=hR.st.lt
 unfold blkP
 have HS:=hide (fun W (x:Ext w W) => isSign_any len g st ⟨#[123]⟩ W (hR.st.ext x))
 cases hb:st.isS ⟨#[123]⟩
 ·rw [if_neg (by decide)]
  rw [hb] at HS
  have HF:=hide (fun W (x:St W g len st) => fail_any len g st 10 W x)
  have HR:=hide hR
  clear hR hlt hsm
  go_enter_defers Tryz.func61,Tryz.ntmps61
  go_wp2_with (first
   | (go_at_call 86;refine Calls.mono (unhide HS _ ((Ext.alloc w _).trans (Ext.alloc _ _))) ?_;rintro e w1 ⟨rfl,hw⟩;have RB:=hide (hw.row ((Ext.alloc _ _).row (Go.heap_alloc_new w _)));have RN:=hide (hw.row (Go.heap_alloc_new (w.alloc _) _));have X1:=hide (((Ext.alloc w _).trans (Ext.alloc _ _)).trans hw);clear hw)
   | (go_at_call 82;refine Calls.mono (unhide HF _ ((unhide HR).st.ext (unhide X1))) ?_;rintro e w2 ⟨rfl,hs,hw⟩;have RC:=hide (hw.row (unhide RB) (by omega));have RD:=hide (hw.row (unhide RN) (by simp;omega));have r0:=rowC (unhide RC) 0 rfl;have r1:=rowC (unhide RC) 1 rfl;have r2:=rowC (unhide RC) 2 rfl;have r3:=rowC (unhide RC) 3 rfl;have r4:=rowC (unhide RC) 4 rfl;have rz:=rowF (unhide RC);have d0:=rowC (unhide RD) 0 rfl;have d1:=rowC (unhide RD) 1 rfl;have d2:=rowC (unhide RD) 2 rfl;have d3:=rowC (unhide RD) 3 rfl;have d4:=rowC (unhide RD) 4 rfl;simp only [size_alloc] at d0 d1 d2 d3 d4;have S2:=hide hs;have X2:=hide ((Gr.of (unhide X1)).trans hw);clear hw hs))
  exact ⟨_,res_node rfl _ _ w.heap.size 10 0 emptyB 0 _ rfl (set5_row (unhide RC) _ _ _ _ _),tree_end (l:=[]) hg (unhide S2) (unhide X2) (Nat.zero_le _) (by simp [RepNL])⟩
 ·rw [if_pos rfl]
  rw [hb] at HS
  have hne:=isS_ne hb
  have HE:=hide (fun W (x:St W g len st) => enter_p len g st W x)
  have HN:=hide (fun W (x:St W g len (st.enter len)) => next_any len g (st.enter len) W x)
  have hl0:=enter_next_lt len hne
  have HX:=hide hsm
  have HLT:=hide (hlt hne)
  have HR:=hide hR
  obtain ⟨F,hF⟩:∃ F,F = blkLoop sm f [] (st.enter len).next:=⟨_,rfl⟩
  rw [← hF]
  have HF:=hide hF
  clear hR hlt hsm hF hb hne
  obtain ⟨i0,hi,hz0,hz1,hz2⟩:=info_parts infoN
  have HI:=hide hi
  have Z0:=hide hz0
  have Z1:=hide hz1
  have Z2:=hide hz2
  clear hi hz0 hz1 hz2
  go_enter_defers Tryz.func61,Tryz.ntmps61
  go_wp2_with (first
   | (go_at_call 86;refine Calls.mono (unhide HS _ ((Ext.alloc w _).trans (Ext.alloc _ _))) ?_;rintro e w1 ⟨rfl,hw⟩;have RB:=hide (hw.row ((Ext.alloc _ _).row (Go.heap_alloc_new w _)));have RN:=hide (hw.row (Go.heap_alloc_new (w.alloc _) _));have X1:=hide (((Ext.alloc w _).trans (Ext.alloc _ _)).trans hw);clear hw)
   | (go_at_call 87;refine Calls.mono (unhide HE _ ((unhide HR).st.ext (unhide X1))) ?_;rintro e w2 ⟨rfl,hs,hw⟩;have RB2:=hide (hw.row (unhide RB) (by omega));have RN2:=hide (hw.row (unhide RN) (by simp;omega));have S2:=hide hs;have X2:=hide ((Gr.of (unhide X1)).trans hw);clear hw hs)
   | (go_at_call 84;refine Calls.mono (unhide HN _ (unhide S2)) ?_;rintro e w3 ⟨rfl,hs,hw⟩;have RB3:=hide (hw.row (unhide RB2) (by omega));have RN3:=hide (hw.row (unhide RN2) (by simp;omega));have S3:=hide hs;have X3:=hide ((unhide X2).trans hw);clear hw hs))
  have MI:Hd (BlkI g len sm w w3 F (st.enter len).next f [] none 0):=⟨unhide HF,by omega,by simp;omega,(unhide HR).go (unhide X3) (unhide S3),unhide X3,unhide RB3,by have h:=unhide RN3;rw [size_alloc] at h;exact h,HoldB.nil _ _⟩
  clear RB RN X1 RB2 RN2 S2 X2 RB3 RN3 S3 X3 HF HE HN HS
  generalize (st.enter len).next = st3 at *
  go_loopw [] (fun wr => ∃ (acc:List PN) (ao:Option Addr) (cap:Nat) (stc:PS) (j:Nat),Hd (BlkI g len sm w wr F stc j acc ao cap) ∧ stc.ts.length < st.ts.length) (fun wr => leftN g wr)
  case atStart => exact ⟨_,_,_,st3,f,MI,hl0⟩
  case round =>
   clear MI
   obtain ⟨acc,ao,cap,stc,j,hM,hle⟩:=hrel
   have hfu:=(unhide hM).fuel
   obtain ⟨j,rfl⟩:∃ i,j = i + 1:=⟨j - 1,by omega⟩
   have HEn:=hide (ended_any len g stc wr (unhide hM).rs.st)
   have HSg:=hide (fun W (x:Ext wr W) => isSign_any len g stc ⟨#[125]⟩ W ((unhide hM).rs.st.ext x))
   have HG:=hide (fun W (x:St W g len stc) => psign_any len g stc ⟨#[125]⟩ W x)
   cases hz:((stc.ts.length:Int) == 0)
   ·rw [hz] at HEn
    cases hb:stc.isS ⟨#[125]⟩
    ·rw [hb] at HSg
     have hstop:stc.stop = false:=by unfold PS.stop;rw [hz,hb];rfl
     have hF2:F = blkLoop sm j (acc ++ [(sm stc).1]) (sm stc).2:=by rw [(unhide hM).eq,blkLoop,hstop];rfl
     have HF2:=hide hF2
     have HX1:=hide (unhide HX stc hle)
     have hl1:=unhide HLT stc (fun e => by rw [e] at hz;simp at hz)
     have hm0:leftN g wr = stc.ts.length:=left_st (unhide hM).rs.st
     have hbd:=(unhide hM).bnd
     clear hF2 hstop hz hb HG
     unfold ExIs at HX1
     generalize sm stc = q at HX1 HF2 hl1
     obtain ⟨⟨k,o,s,n,l⟩,st5⟩:=q
     obtain ⟨xs,hx⟩:=(unhide hM).hold.own
     have HXS:=hide (fun w2 (x:Gr g wr w2) => heldB_on hx x (by omega))
     clear hx
     generalize hA:acc.length = A at *
     have hr3:w.heap.size + 1 < wr.heap.size:=(Array.getElem?_eq_some_iff.1 (unhide hM).r3).1
     go_wp2_with (first
      | (go_at_call 43;refine Calls.mono (unhide HEn) ?_;rintro e w4 ⟨rfl,hw⟩;obtain rfl:=hw.symm)
      | (go_at_call 86;refine Calls.mono (unhide HSg _ (Ext.refl _)) ?_;rintro e w4 ⟨rfl,hw⟩;have X4:=hide hw;have RF:=hide (hw.row (unhide hM).r3);have d0:=rowC (unhide RF) 0 rfl;have d1:=rowC (unhide RF) 1 rfl;have d2:=rowC (unhide RF) 2 rfl;have d3:=rowC (unhide RF) 3 rfl;have d4:=rowC (unhide RF) 4 rfl;have hb4:wr.heap.size ≤ w4.heap.size:=hw.le;clear hw))
     have D0:Hd (Gr g wr w4.drew):=(Gr.of (unhide X4)).drew
     have D1:Hd (Rs w4.drew g len stc):=(unhide hM).rs.ext (Ext.drew (unhide X4))
     refine wp_nrm ?_
     first | skip;go_region_law (first
      | (refine step_call_one rfl 89 (.tmp 26) 77 rfl _ (by simp [Act.eval,Act.put]) (enterStm _ _) (Calls.mono (unhide HX1 _ ((unhide hM).gr.trans (unhide D0)) (unhide D1)) ?_);rintro e w5 ⟨v,rfl,hr,hs,hw⟩;rw [RepN] at hr;obtain ⟨a,c,rfl,hcap,hl⟩:=hr;have X5:=hide ((unhide D0).trans hw);have RG:=hide ((unhide X5).row (unhide hM).r3 (by omega));have d0:=rowC (unhide RG) 0 rfl;have d1:=rowC (unhide RG) 1 rfl;have d2:=rowC (unhide RG) 2 rfl;have d3:=rowC (unhide RG) 3 rfl;have d4:=rowC (unhide RG) 4 rfl;have S5:=hide hs;have L5:Hd (RepNL w5 (Fr wr.heap.size w5.heap.size) l a):=RepNL.to (fun b hb => ⟨⟨Nat.le_trans hb4 hb.1,hb.2⟩,rfl⟩) _ _ hl;have hb5:w.heap.size + 1 < w5.heap.size:=(Array.getElem?_eq_some_iff.1 (unhide RG)).1;clear hw hs hl;refine ⟨_,rfl,?_⟩)
      | (refine step_append_where rfl (.tmp 25) (.tmp 28) 27 rfl (w.heap.size + 2) 29 i0 (nodV 0 0 emptyB 0 (.slice none 0 0)) 5 64 Tryz.underlying27 (unhide HI) (unhide Z0) (unhide Z1) (unhide Z2) rfl (by decide) ao A cap xs (by simp [Act.eval,Act.put]) (unhide HXS _ ((unhide X5).alloc _)).1 ⟨w5.heap.size,0,none⟩ 1 1 [.int .i64 k,.int .i64 o,.string s,.int .i64 n,.slice a l.length c] (by simp [Act.eval,Act.put]) (by decide) rfl (cells_new w5 _ _) (one_cells _ _ _ _ _ _ _) (by unfold maxLen;omega) (by omega) (by simp;omega) ?_;intro g2 cap6 w6 ho6 hg6 hw6;have RZ:=hide ((below_grown (unhide HXS _ ((unhide X5).alloc _)).1 hg6 (w.heap.size + 1) (by omega) (by simp;omega)).trans ((Ext.alloc _ _).row (unhide RG)));have z0:=rowC (unhide RZ) 0 rfl;have z1:=rowC (unhide RZ) 1 rfl;have z2:=rowC (unhide RZ) 2 rfl;have z3:=rowC (unhide RZ) 3 rfl;have z4:=rowC (unhide RZ) 4 rfl;have zz:=rowF (unhide RZ);have HO6:=hide ho6;have HG6:=hide hg6;have HW6:=hide hw6;clear ho6 hg6 hw6)) | fail
     all_goals
      subst hA
      have hN:=BlkI.snoc (k:=k) (o:=o) (n:=n) (s:=s) (unhide HR) (unhide hM) (unhide HF2) hl1 (unhide X5) (unhide S5) hcap (unhide L5) _ (unhide HXS _ ((unhide X5).alloc _)) (unhide HO6) (unhide HG6) (by have h:=unhide HW6;rw [size_alloc] at h;exact h)
      refine gen_world (F:=fun W7 => Exit.inBlock 1 _ Exit.normal _ W7) ?_
      intro W7 hW7
      rw [← hW7] at hN
      have MN:=hide hN
      have hm1:leftN g W7 = st5.ts.length:=left_st hN.rs.st
      clear hN hW7 HO6 HG6 HW6 RZ RG X5 S5 L5 z0 z1 z2 z3 z4 zz d0 d1 d2 d3 d4
      go_wp2_with fail
      go_roundw
      case rel => exact ⟨_,_,_,st5,j,MN,by omega⟩
      case measure => rw [hm0,hm1];omega
    ·rw [hb] at HSg
     have hstop:stc.stop = true:=by unfold PS.stop;rw [hb,Bool.or_true]
     have hF2:F = (acc,stc):=by rw [(unhide hM).eq,blkLoop,hstop];rfl
     subst hF2
     clear hstop hz hb
     go_wp2_with (first
      | (go_at_call 43;refine Calls.mono (unhide HEn) ?_;rintro e w4 ⟨rfl,hw⟩;obtain rfl:=hw.symm)
      | (go_at_call 86;refine Calls.mono (unhide HSg _ (Ext.refl _)) ?_;rintro e w5 ⟨rfl,hw⟩;have X5:=hide (Gr.of (g:=g) hw);have S5:=hide ((unhide hM).rs.st.ext hw);clear hw)
      | (go_at_call 59;refine Calls.mono (unhide HG _ (unhide S5)) ?_;rintro e w6 ⟨rfl,hs,hw⟩;have X6:=hide ((unhide X5).trans hw);have RE:=hide ((unhide X6).row (unhide hM).r2 (by omega));have RF:=hide ((unhide X6).row (unhide hM).r3 (by omega));have r0:=rowC (unhide RE) 0 rfl;have r1:=rowC (unhide RE) 1 rfl;have r2:=rowC (unhide RE) 2 rfl;have r3:=rowC (unhide RE) 3 rfl;have r4:=rowC (unhide RE) 4 rfl;have rz:=rowF (unhide RE);have d0:=rowC (unhide RF) 0 rfl;have d1:=rowC (unhide RF) 1 rfl;have d2:=rowC (unhide RF) 2 rfl;have d3:=rowC (unhide RF) 3 rfl;have d4:=rowC (unhide RF) 4 rfl;have S6:=hide hs;clear hw hs))
     have T6:=(unhide hM).shut hg (unhide X6) (unhide S6)
     refine leaves_cons (f:=88) (args:=#[.pointer (some ⟨g,0,none⟩)]) (by simp) (by simp [go_sem]) ?_
     refine (leave_p len g _ .returning _ ((unhide S6).set5 hg _ _ _ _ _)).mono ?_
     rintro e u' w7 ⟨rfl,rfl,hs,hw⟩
     exact ⟨_,res_node rfl _ _ w.heap.size 10 0 emptyB 0 _ rfl (hw.row (set5_row (unhide RE) _ _ _ _ _) (by omega)),T6.gr hg hw hs⟩
   ·rw [hz] at HEn
    have hstop:stc.stop = true:=by unfold PS.stop;rw [hz,Bool.true_or]
    have hF2:F = (acc,stc):=by rw [(unhide hM).eq,blkLoop,hstop];rfl
    subst hF2
    have S5:Hd (St wr g len stc):=(unhide hM).rs.st
    have X5:Hd (Gr g wr wr):=Gr.refl _ _
    clear hstop hz
    go_wp2_with (first
     | (go_at_call 43;refine Calls.mono (unhide HEn) ?_;rintro e w4 ⟨rfl,hw⟩;obtain rfl:=hw.symm)
     | (go_at_call 59;refine Calls.mono (unhide HG _ (unhide S5)) ?_;rintro e w6 ⟨rfl,hs,hw⟩;have X6:=hide ((unhide X5).trans hw);have RE:=hide ((unhide X6).row (unhide hM).r2 (by omega));have RF:=hide ((unhide X6).row (unhide hM).r3 (by omega));have r0:=rowC (unhide RE) 0 rfl;have r1:=rowC (unhide RE) 1 rfl;have r2:=rowC (unhide RE) 2 rfl;have r3:=rowC (unhide RE) 3 rfl;have r4:=rowC (unhide RE) 4 rfl;have rz:=rowF (unhide RE);have d0:=rowC (unhide RF) 0 rfl;have d1:=rowC (unhide RF) 1 rfl;have d2:=rowC (unhide RF) 2 rfl;have d3:=rowC (unhide RF) 3 rfl;have d4:=rowC (unhide RF) 4 rfl;have S6:=hide hs;clear hw hs))
    have T6:=(unhide hM).shut hg (unhide X6) (unhide S6)
    refine leaves_cons (f:=88) (args:=#[.pointer (some ⟨g,0,none⟩)]) (by simp) (by simp [go_sem]) ?_
    refine (leave_p len g _ .returning _ ((unhide S6).set5 hg _ _ _ _ _)).mono ?_
    rintro e u' w7 ⟨rfl,rfl,hs,hw⟩
    exact ⟨_,res_node rfl _ _ w.heap.size 10 0 emptyB 0 _ rfl (hw.row (set5_row (unhide RE) _ _ _ _ _) (by omega)),T6.gr hg hw hs⟩
end Go.Proofs.YtgkdmgndebifiaaGreatDoor
