/- An if with an if behind its else,in the document's own reader. -/
import Derived.Test.YtjnpehohialmbaaGreatZs15
set_option linter.unusedSimpArgs false
set_option linter.unusedVariables false
set_option maxRecDepth 10000
set_option maxHeartbeats 8000000
namespace Go.Proofs.YtjnpehohialmbaaGreat
open Go.RowKit
section
variable {w w':World} {g len:Nat} {T:List Tk} {wd:Int} {st:PS}
theorem cells_new3 (w:World) (o o2:Obj) (cs:Array Value) (t:TypeId):∀ j u,cs.toList[j]? = some u→(((w.alloc o).alloc o2).alloc (.cells cs t)).cell? ((⟨w.heap.size+2,0,none⟩:Addr).add j)=some u:=by
 have h:=cells_new ((w.alloc o).alloc o2) cs t;rw[size_alloc,size_alloc] at h;exact h
theorem elif_rep {w7 w8:World} {k o n2:Int} {s:ByteArray} {l:List PN} {a:Option Addr} {c:Nat} {o1 o3:Obj} (hc:l.length≤c) (hl:RepNL w8 (Fr w7.heap.size w8.heap.size) l a) (hz:w7.heap.size≤w8.heap.size) :
  RepNL (((w8.alloc o1).alloc (nodO k o s n2 (.slice a l.length c))).alloc o3) (Fr w7.heap.size (((w8.alloc o1).alloc (nodO k o s n2 (.slice a l.length c))).alloc o3).heap.size) [⟨k,o,s,n2,l⟩] (some ⟨w8.heap.size+1,0,none⟩):=by
 have hn:=Go.heap_alloc_new (w8.alloc o1) (nodO k o s n2 (.slice a l.length c));rw[size_alloc] at hn;have hsz:(((w8.alloc o1).alloc (nodO k o s n2 (.slice a l.length c))).alloc o3).heap.size=w8.heap.size+3:=by rw[size_alloc,size_alloc,size_alloc]
 refine one_repR ((Ext.alloc _ _).row hn) ⟨by omega,by rw[hsz];omega⟩ hc (RepNL.to (fun b hb => ?_) _ _ hl);have h1:=hb.1;have h2:=hb.2;exact⟨⟨h1,by rw[hsz];omega⟩,(((Ext.alloc _ _).trans (Ext.alloc _ _)).trans (Ext.alloc _ _)).block b h2⟩
theorem branch_elif (ex bl ch bo:Rdr) (hge:GoodR ex) (hgb:GoodR bl) (hex:RIs g len T wd 1 ex st.next) (hbl:RBlk g len T wd bl (ex st.next).2) (hbr:RBrn g len T wd ch (bl (ex st.next).2).2.next) (hE:(bl (ex st.next).2).2.isW ⟨#[101,108,115,101]⟩=true) (hI:(bl (ex st.next).2).2.next.isW ⟨#[105,102]⟩=true) (h0:st.e=0) (hW:st.isW ⟨#[105,102]⟩=true) (h:Rp w g len T wd st) :
  Calls Tryz.prog 96 #[.pointer (some ⟨g,0,none⟩)] w (RNode w g len T wd (choP ex bl (othP ch bo) st.next)):=by
 have hg:=h.lt;have n1:=(next_kp h.nv).nv h.nv;have n2:=(hge st.next n1).nv n1;have HKS:=hgb (ex st.next).2 n2;have n3:=HKS.nv n2;have HWt:=zh (fun (W:World) (x:Rp W g len T wd st)=>want_w x ⟨#[105,102]⟩ (by decide +kernel));have ew:st.word len ⟨#[105,102]⟩=st.next:=by unfold PS.word;rw[hW];rfl
 rw[ew] at HWt;have H:=zh h;have HEx:=zh hex;unfold RIs at HEx;have HBl:=zh hbl;unfold RBlk at HBl;have HTe:=zh (fun (W:World) (x:Rp W g len T wd (bl (ex st.next).2).2)=>take_yes x ⟨#[101,108,115,101]⟩ (by decide +kernel) hE);have hu2:(bl (ex st.next).2).2.e=0:=by
  by_cases h9:(bl (ex st.next).2).2.e=0
  ·exact h9
  ·exact absurd (n3.nil h9) (isW_ne hE)
 have hu1:(ex st.next).2.e=0:=(HKS.ok hu2).1;have hun:(bl (ex st.next).2).2.next.e=0:=hu2;have HIs:Hd (∀ W,Rp W g len T wd (bl (ex st.next).2).2.next→Calls Tryz.prog 63 #[.pointer (some ⟨g,0,none⟩),.string ⟨#[105,102]⟩] W fun e w'=>e = .returned (.bool true)∧Ext W w'):=fun W x=>by
  have:=is_r x hun ⟨#[105,102]⟩;rw[isA_W x hun (by decide +kernel),hI] at this;exact this
 have HBr:Hd (∀ W,Rp W g len T wd (bl (ex st.next).2).2.next→Calls Tryz.prog 96 #[.pointer (some ⟨g,0,none⟩)] W (RNode W g len T wd (ch (bl (ex st.next).2).2.next.next))):=fun W x=>hbr W x hun hI;obtain⟨RS,hRS⟩:∃ RS,RS=choP ex bl (othP ch bo) st.next:=⟨_,rfl⟩;rw[← hRS];have hRS:RS=(⟨3,0,zE,0,[(ex st.next).1,(bl (ex st.next).2).1,⟨10,0,zE,0,[(ch (bl (ex st.next).2).2.next.next).1]⟩]⟩,(ch (bl (ex st.next).2).2.next.next).2):=by rw[hRS];unfold choP;rw[hE];unfold othP;rw[hI];rfl
 rw[hRS];clear h hex hge hgb hbl n1 n2 ew hRS;generalize ex st.next=q1 at *;obtain⟨qn,u1⟩:=q1;simp only at *;generalize bl u1=q2 at *;obtain⟨qm,u2⟩:=q2;simp only at *;clear hbr hE hI HKS;generalize ch u2.next.next=q3 at *;obtain⟨ql,u3⟩:=q3;simp only at *;obtain⟨i0,hi,hz0,hz1,hz2⟩:=info_parts infoN;have HIN:=zh hi;have Z0:=zh hz0;have Z1:=zh hz1;have Z2:=zh hz2;clear hi hz0 hz1 hz2;have hwg:(w.heap.size == g)=false:=by simp;omega
 go_enter Tryz.func96,Tryz.ntmps96
 go_wp2_with (first
  | (have T9:=zu H;go_at_call 33;refine Calls.mono (zu HWt _ (T9.ext (Ext.alloc _ _))) ?_;rintro e w1 ⟨rfl,hs,hw⟩;have S1:=zh hs;have G1:=zh ((Gr.of (Ext.alloc w _)).trans hw);have R1:=zh (hw.row (Go.heap_alloc_new w _) (by omega));clear hw hs T9 H)
  | (have T9:=zu S1;go_at_call 97;refine Calls.mono (zu HEx _ T9) ?_;rintro e w2 ⟨v,p5,rfl,hr,hp,hs,hw⟩;obtain⟨k2,o2,s2,n2,l2⟩:=p5;rw[RepN] at hr;obtain⟨a2,cap2,rfl,hcap2,hl3⟩:=hr;have N3:=zh (NS.make (k:=k2) (o:=o2) (n2:=n2) (s:=s2) hg (zu R1) (zu G1) hs hw hl3 hcap2 3 zE);have P5:=zh hp;clear hw hs hl3 hp T9 S1 R1 G1))
 refine gen_world (F:=fun W=>Code.wp _ _ _ _ W) ?_;intro W9 hW9;have N40:NS g len T wd w W9 (w2.heap.size+1) u1 3 zE [⟨k2,o2,s2,n2,l2⟩] 1 (some ⟨w2.heap.size,0,none⟩) 1:=by rw[hW9];exact zu N3
 obtain⟨nA,hnA,N4⟩:∃ m,m≤1∧NS g len T wd w W9 (w2.heap.size+1) u1 3 zE [⟨k2,o2,s2,n2,l2⟩] m (some ⟨w2.heap.size,0,none⟩) 1:=⟨_,Nat.le_refl _,N40⟩;have N4:=zh N4;clear N40 hW9 N3;obtain⟨xsa,hxs⟩:=(zu N4).own;have HXSa:=zh hxs;clear hxs;have d0:W9.cell? ⟨(w2.heap.size+1),0,none⟩=some (.int .i64 3):=zr (zu N4).r3 0 rfl;have d1:W9.cell? ⟨(w2.heap.size+1),1,none⟩=some (.int .i64 0):=zr (zu N4).r3 1 rfl;have d2:W9.cell? ⟨(w2.heap.size+1),2,none⟩=some (.string zE):=zr (zu N4).r3 2 rfl;have d3:W9.cell? ⟨(w2.heap.size+1),3,none⟩=some (.int .i64 0):=zr (zu N4).r3 3 rfl;have d4:W9.cell? ⟨(w2.heap.size+1),4,none⟩=some (.slice (some ⟨w2.heap.size,0,none⟩) nA 1):=zr (zu N4).r3 4 rfl;have dz:=rowF (zu N4).r3;have hlta:=(zu N4).lt;have hBBa:=(zu N4).hB
 have hgga:=(zu N4).hg;have D0a:Hd (Gr g W9 W9.drew):=(Gr.refl _ _).drew;have D1a:Hd (Rp W9.drew g len T wd u1):=(zu N4).rs.ext (Ext.drew (Ext.refl _));have hne1:(w2.heap.size+1 == g)=false:=by simp;omega
 have hne2:(w.heap.size == w2.heap.size+1)=false:=by simp;omega
 have HBa:=zh (zu HBl _ (zu D1a));refine wp_nrm ?_
 first | skip;go_region_law (first
  | (refine step_call_one rfl 36 (.tmp 13) 65 rfl _ (by simp[Act.eval,Act.put]) (enterRBlk _ _) (Calls.mono (zu HBa) ?_);rintro e w6a ⟨v,p6,rfl,hr,hp,hs,hw⟩;obtain⟨k3a,o3a,s3a,n3a,l3a⟩:=p6;rw[RepN] at hr;obtain⟨a3a,c3a,rfl,hcap3a,hl⟩:=hr;have X6a:=zh ((zu D0a).trans hw);have RG:=zh ((zu X6a).row (zu N4).r3 (by omega));have d0:=zr (zu RG) 0 rfl;have d1:=zr (zu RG) 1 rfl;have d2:=zr (zu RG) 2 rfl;have d3:=zr (zu RG) 3 rfl;have d4:=zr (zu RG) 4 rfl;have dz:=rowF (zu RG);have S6a:=zh hs;have P6a:=zh hp;have L6a:Hd (RepNL w6a (Fr W9.heap.size w6a.heap.size) l3a a3a):=hl;have hz6a:W9.heap.size≤w6a.heap.size:=hw.size;have hb6a:(w2.heap.size+1) < w6a.heap.size:=(Array.getElem?_eq_some_iff.1 (zu RG)).1;clear hw hs hl hp;refine⟨_,rfl,?_⟩)
  | (refine step_append_where rfl (.tmp 12) (.tmp 15) 44 rfl (w.heap.size+1) 46 i0 (nodV 0 0 zE 0 (.slice none 0 0)) 5 64 Tryz.underlying44 (zu HIN) (zu Z0) (zu Z1) (zu Z2) rfl (by decide) (some ⟨w2.heap.size,0,none⟩) nA 1 xsa (by simp[Act.eval,Act.put]) (zu HXSa _ ((zu X6a).alloc _)).1 ⟨w6a.heap.size,0,none⟩ 1 1 [.int .i64 k3a,.int .i64 o3a,.string s3a,.int .i64 n3a,.slice a3a l3a.length c3a] (by simp[Act.eval,Act.put]) (by decide) rfl (cells_new w6a _ _) (one_cells _ _ _ _ _ _ _) (by unfold maxLen;omega) (by omega) (by simp;omega) ?_;intro g2a cap7a w7a ho7 hg7 hw7;have RZ:=zh ((zu N4).grown ((zu X6a).alloc _) hg7);have z0:=zr (zu RZ) 0 rfl;have z1:=zr (zu RZ) 1 rfl;have z2:=zr (zu RZ) 2 rfl;have z3:=zr (zu RZ) 3 rfl;have z4:=zr (zu RZ) 4 rfl;have zz:=rowF (zu RZ);have HO7a:=zh ho7;have HG7a:=zh hg7;have HW7a:=zh hw7;clear ho7 hg7 hw7)) | fail
 all_goals
  refine nrm_inB ?_;have N5:=zh (NS.snocA (k:=k3a) (o:=o3a) (n2:=n3a) (s:=s3a) (zu N4) (zu X6a) (zu S6a) hcap3a (zu L6a) _ (zu HXSa _ ((zu X6a).alloc _)) (zu HO7a) (zu HG7a) (zu HW7a));clear d0 d1 d2 d3 d4 dz
  go_wp2_with (first
   | (have T9:=zu N5;go_at_call 35;refine Calls.mono (zu HTe _ T9.rs) ?_;rintro e w8 ⟨rfl,hs,hw⟩;have N6:=zh (T9.go hs hw);clear hw hs T9 N5)
   | (have T9:=zu N6;go_at_call 63;refine Calls.mono (zu HIs _ T9.rs) ?_;rintro e w9 ⟨rfl,hw⟩;have N7:=zh (T9.ext hw);obtain⟨xsb,hxs⟩:=(zu N7).own;have HXSb:=zh hxs;have hlt9:=(zu N7).lt;clear hw T9 N6 hxs)
   | (have T9:=zu N7;go_at_call 96;refine Calls.mono (zu HBr _ T9.rs) ?_;rintro e w10 ⟨v,p7,rfl,hr,hp,hs,hw⟩;obtain⟨k4,o4,s4,n4,l4⟩:=p7;rw[RepN] at hr;obtain⟨a4,cap4,rfl,hcap4,hl4⟩:=hr;have X10:=zh hw;have S10:=zh hs;have P7:=zh hp;have L10:=zh hl4;have RG:=zh (hw.row T9.r3 (by omega));have d0:=zr (zu RG) 0 rfl;have d1:=zr (zu RG) 1 rfl;have d2:=zr (zu RG) 2 rfl;have d3:=zr (zu RG) 3 rfl;have d4:=zr (zu RG) 4 rfl;have dz:=rowF (zu RG);have hb10:w2.heap.size+1 < w10.heap.size:=(Array.getElem?_eq_some_iff.1 (zu RG)).1;have hz10:w9.heap.size≤w10.heap.size:=hw.size;clear hw hs hl4 hp T9)
   | (at_builtin;refine wpList_append_where rfl (.tmp 27) (.tmp 31) 44 rfl (w.heap.size+1) 46 i0 (nodV 0 0 zE 0 (.slice none 0 0)) 5 64 Tryz.underlying44 (zu HIN) (zu Z0) (zu Z1) (zu Z2) rfl (by decide) (some ⟨g2a,0,none⟩) (nA+1) cap7a xsb rfl (zu HXSb _ ((((zu X10).alloc _).alloc _).alloc _)).1 ⟨w10.heap.size+2,0,none⟩ 1 1 [.int .i64 10,.int .i64 0,.string zE,.int .i64 0,.slice (some ⟨w10.heap.size+1,0,none⟩) 1 1] rfl (by decide) rfl (cells_new3 w10 _ _ _ _) (one_cells _ _ _ _ _ _ _) ?c1 ?c2 ?c3 ?_))
  case c1=>unfold maxLen;omega
  case c2=>omega
  case c3=>simp;omega
  intro g2b cap7b w11 ho7 hg7 hw7;have N8:=zh (NS.snoc (k:=10) (o:=0) (n2:=0) (s:=zE) (l:=[⟨k4,o4,s4,n4,l4⟩]) (c:=1) (zu N7) ((((zu X10).alloc _).alloc _).alloc _) ((((zu S10).ext (Ext.alloc _ _)).ext (Ext.alloc _ _)).ext (Ext.alloc _ _)) (Nat.le_refl _) (elif_rep hcap4 (zu L10) hz10) (zu HXSb _ ((((zu X10).alloc _).alloc _).alloc _)) ho7 hg7 (by rw[size_alloc,size_alloc,size_alloc];exact hw7));have RZ:=zh ((zu N7).grown ((((zu X10).alloc _).alloc _).alloc _) hg7);have z0:=zr (zu RZ) 0 rfl;have z1:=zr (zu RZ) 1 rfl;have z2:=zr (zu RZ) 2 rfl;have z3:=zr (zu RZ) 3 rfl;have z4:=zr (zu RZ) 4 rfl;have zz:=rowF (zu RZ);have r0:=zr (zu N8).r2 0 rfl;have r1:=zr (zu N8).r2 1 rfl;have r2:=zr (zu N8).r2 2 rfl;have r3:=zr (zu N8).r2 3 rfl
  have r4:=zr (zu N8).r2 4 rfl;have rz:=rowF (zu N8).r2;have q0:=zr (zu N8).r3 0 rfl;have q1:=zr (zu N8).r3 1 rfl;have q2:=zr (zu N8).r3 2 rfl;have q3:=zr (zu N8).r3 3 rfl;have q4:=zr (zu N8).r3 4 rfl;have qz:=rowF (zu N8).r3;clear ho7 hg7 hw7
  go_wp2_with fail
  exact bodyPost_ret (v:=nodV 3 0 zE 0 (.slice (some ⟨g2b,0,none⟩) (nA+1+1) cap7b)) (res_nodR Tryz.results96 _ _ w.heap.size _ _ _ _ _ rfl (zu N8).end) rfl ((zu N8).fin (fun e=>by rw[zu P5 hu1,zu P6a hu2,zu P7 e];rfl))
end
section
variable {w w':World} {g len:Nat} {T:List Tk} {wd:Int} {st:PS}
theorem stmt_r (ex bl ch:Rdr) (hge:GoodR ex) (hgb:GoodR bl) (hse:Shorter ex) (hex:∀ s:PS,s.ts.length≤st.ts.length→RIs g len T wd 1 ex s) (hbl:∀ s:PS,s.ts.length < st.ts.length→RBlk g len T wd bl s) (hbr:RBrn g len T wd ch st) (h0:st.e=0) (h:Rp w g len T wd st) :
  Calls Tryz.prog 65 #[.pointer (some ⟨g,0,none⟩)] w (RNode w g len T wd (stmP len ex bl ch st)):=by
 have hex1:∀ s:PS,s.ts.length < st.ts.length→RIs g len T wd 1 ex s:=fun s hs=>hex s (Nat.le_of_lt hs);cases w_let:st.isW ⟨#[108,101,116]⟩
 case true=>exact stmt_let ex bl ch hge hex1 h0 w_let h
 cases hset:st.isSet
 case true=>exact stmt_set ex bl ch hge hex1 h0 hset h
 cases w_if:st.isW ⟨#[105,102]⟩
 case true=>exact stmt_if ex bl ch hbr h0 w_if h
 cases w_while:st.isW ⟨#[119,104,105,108,101]⟩
 case true=>exact stmt_while ex bl ch hge hgb hse hex1 hbl h0 w_while h
 cases w_break:st.isW ⟨#[98,114,101,97,107]⟩
 case true=>exact stmt_break ex bl ch h0 w_break h
 cases w_continue:st.isW ⟨#[99,111,110,116,105,110,117,101]⟩
 case true=>exact stmt_continue ex bl ch h0 w_continue h
 cases w_return:st.isW ⟨#[114,101,116,117,114,110]⟩
 case true =>
  cases hsc:st.next.isS ⟨#[59]⟩
  ·exact stmt_return1 ex bl ch hge hex1 h0 w_return hsc h
  ·exact stmt_return0 ex bl ch h0 w_return hsc h
 cases w_print:st.isW ⟨#[112,114,105,110,116]⟩
 case true=>exact stmt_print ex bl ch hge hex1 h0 w_print h
 exact stmt_do ex bl ch hge (hex st (Nat.le_refl _)) h0 hset w_if w_while w_let w_break w_continue w_return w_print h
theorem branch_r (ex bl ch bo:Rdr) (hge:GoodR ex) (hgb:GoodR bl) (hex:RIs g len T wd 1 ex st.next) (hbl:RBlk g len T wd bl (ex st.next).2) (hbr:(bl (ex st.next).2).2.ts≠[]→RBrn g len T wd ch (bl (ex st.next).2).2.next) (hbo:(bl (ex st.next).2).2.ts≠[]→RBlk g len T wd bo (bl (ex st.next).2).2.next) (h0:st.e=0) (hW:st.isW ⟨#[105,102]⟩=true) (h:Rp w g len T wd st) :
  Calls Tryz.prog 96 #[.pointer (some ⟨g,0,none⟩)] w (RNode w g len T wd (choP ex bl (othP ch bo) st.next)):=by
 cases hE:(bl (ex st.next).2).2.isW ⟨#[101,108,115,101]⟩
 ·exact branch_none ex bl ch bo hge hgb hex hbl hE h0 hW h
 ·cases hI:(bl (ex st.next).2).2.next.isW ⟨#[105,102]⟩
  ·exact branch_else ex bl ch bo hge hgb hex hbl (hbo (isW_ne hE)) hE hI h0 hW h
  ·exact branch_elif ex bl ch bo hge hgb hex hbl (hbr (isW_ne hE)) hE hI h0 hW h
theorem rsts (fe:Nat) (hfe:fe≤100000) (f:Nat):f≤fe→(∀ s:PS,s.ts.length < f→RStm g len T wd (stsP len fe f).1 s)∧(∀ s:PS,s.ts.length < f→RBlk g len T wd (stsP len fe f).2.1 s)∧(∀ s:PS,s.ts.length≤f→RBrn g len T wd (stsP len fe f).2.2 s):=by
 induction f with
 | zero=>exact fun _=>⟨fun s h=>absurd h (Nat.not_lt_zero _),fun s h=>absurd h (Nat.not_lt_zero _),fun s h W x h0 hW=>absurd (List.length_eq_zero_iff.1 (Nat.le_zero.1 h)) (isW_ne hW)⟩
 | succ f ih =>
  intro hf;obtain⟨h1,h2,h3⟩:=ih (Nat.le_trans (Nat.le_succ f) hf);obtain⟨k1,k2,k3⟩:=sts_kp len fe f;obtain⟨l1,l2,l3⟩:=sts_le len fe f;have hx:∀ s:PS,s.ts.length < fe→RIs g len T wd 1 (exP len fe) s:=fun s hs=>rex fe hfe s hs;have e1:(stsP len fe (f+1)).1=stmP len (exP len fe) (stsP len fe f).2.1 (stsP len fe f).2.2:=by rw[stsP]
  have e2:(stsP len fe (f+1)).2.1=blkP len (stsP len fe f).1 (f+1):=by rw[stsP]
  have e3:(stsP len fe (f+1)).2.2=choP (exP len fe) (blkP len (stsP len fe f).1 (f+1)) (othP (stsP len fe f).2.2 (stsP len fe f).2.1):=by rw[stsP]
  rw[e1,e2,e3];have hB:∀ s:PS,s.ts.length < f+1→RBlk g len T wd (blkP len (stsP len fe f).1 (f+1)) s:=by
   intro s hs W x;cases hS:s.isS ⟨#[123]⟩
   ·exact block_none (stsP len fe f).1 (f+1) hS x
   ·have hne:=isS_ne hS
    have hp:=List.length_pos_iff.2 hne;refine block_some (stsP len fe f).1 (f+1) k1 hS hs (by omega) ?_ ?_ (fun t ht W2 x2 h0=>h1 t (by omega) W2 x2 h0) x
    ·obtain⟨f',rfl⟩:∃ f',f=f' + 1:=⟨f - 1,by omega⟩
     obtain⟨_,m2,m3⟩:=sts_le len fe f';intro t ht;rw[stsP];exact stm_lt (ex_le len fe) m2 m3 ht
    ·obtain⟨f',rfl⟩:∃ f',f=f' + 1:=⟨f - 1,by omega⟩
     obtain⟨fe',rfl⟩:∃ f',fe=f' + 1:=⟨fe - 1,by omega⟩;intro t he ht;rw[stsP];exact stm_end (ex_end len fe') t he ht
  refine⟨fun s hs W x h0 => ?_,hB,fun s hs W x h0 hW => ?_⟩
  ·exact stmt_r _ _ _ (ex_kp len fe) k2 (ex_le len fe) (fun t ht=>hx t (by omega)) (fun t ht=>h2 t (by omega)) (fun W2 x2 h9 hW=>h3 s (by omega) W2 x2 h9 hW) h0 x
  ·have hne:=isW_ne hW
   have q1:s.next.ts.length < s.ts.length:=next_lt_of hne;have q2:=ex_le len fe s.next;have q3:=blk_le (len:=len) l1 (f+1) ((exP len fe) s.next).2;refine branch_r _ _ _ _ (ex_kp len fe) (blk_kp k1 (f+1)) (hx s.next (by omega)) (hB _ (by omega)) (fun hn => ?_) (fun hn => ?_) h0 hW x
   ·have q4:=next_lt_of hn
    exact h3 _ (by omega)
   ·have q4:=next_lt_of hn
    exact h2 _ (by omega)
theorem rblk (f:Nat) (hf:f≤100000) (s:PS) (hs:s.ts.length < f):RBlk g len T wd (stsP len f f).2.1 s:=(rsts f hf f (Nat.le_refl _)).2.1 s hs
end
section
def RepS (w:World) (F:Nat→Prop) (ps:List ByteArray) (a:Option Addr):Prop :=
 ps = []∨∃ b off,a=some ⟨b,off,none⟩∧F b∧∀ j u,(ps.map Value.string)[j]? = some u→w.cell? ⟨b,off+j,none⟩=some u
theorem RepS.to {w w':World} {F F':Nat→Prop} (h:∀ b,F b→F' b∧w'.heap[b]? = w.heap[b]?) {ps:List ByteArray} {a:Option Addr} (hr:RepS w F ps a):RepS w' F' ps a:=by
 rcases hr with hr | ⟨b,off,rfl,hb,hc⟩
 ·exact Or.inl hr
 ·exact Or.inr ⟨b,off,rfl,(h b hb).1,fun j u hu=>by rw[World.cell?_of_block (w:=w) (h b hb).2];exact hc j u hu⟩
theorem infoS:(Tryz.prog.info? 9).map (fun i=>(i.zero,i.size,i.bytes))=some (some (.string zE),1,16):=by kernel_rfl
theorem own_S {wr:World} {base:Nat} {acc:List ByteArray} {ao:Option Addr} {cap:Nat} (ho:wr.ownsRow base 9 1 (.slice ao acc.length cap) acc.length (acc.map Value.string)):acc.length≤cap∧RepS wr (Fr base wr.heap.size) acc ao:=by
 obtain⟨hlen,⟨e,h0⟩ | ⟨b,cap2,cur,e,hb,hrow,hc,_⟩⟩:=id ho
 ·have:acc = []:=List.length_eq_zero_iff.1 h0
  subst this;exact⟨Nat.zero_le _,Or.inl rfl⟩
 ·injection e with e1 e2 e3
  subst e1 e3;exact⟨hc,Or.inr ⟨b,0,rfl,⟨hb,(Array.getElem?_eq_some_iff.1 hrow).1⟩,cells_own ho⟩⟩
theorem one_str (s:ByteArray):∀ u ∈ ([.string s]:List Value),u.oneCell' = true:=by
 intro u hu;simp at hu;subst hu;rfl
end
section
abbrev funV (nm:ByteArray) (pa:Option Addr) (pn pc:Nat) (k o:Int) (s:ByteArray) (n:Int) (a:Option Addr) (ln cap:Nat):Value:=.agg #[.string nm,.slice pa pn pc,.int .i64 k,.int .i64 o,.string s,.int .i64 n,.slice a ln cap]
abbrev funO (nm:ByteArray) (pa:Option Addr) (pn pc:Nat) (k o:Int) (s:ByteArray) (n:Int) (a:Option Addr) (ln cap:Nat):Obj:=.cells #[.string nm,.slice pa pn pc,.int .i64 k,.int .i64 o,.string s,.int .i64 n,.slice a ln cap] 70 (0,0)
abbrev set7 (w:World) (b:Nat) (nm:ByteArray) (pa:Option Addr) (pn pc:Nat) (k o:Int) (s:ByteArray) (n:Int) (a:Option Addr) (ln cap:Nat):World:=(((((((w).setCell ⟨b,0,none⟩ (.string nm)).setCell ⟨b,1,none⟩ (.slice pa pn pc)).setCell ⟨b,2,none⟩ (.int .i64 k)).setCell ⟨b,3,none⟩ (.int .i64 o)).setCell ⟨b,4,none⟩ (.string s)).setCell ⟨b,5,none⟩ (.int .i64 n)).setCell ⟨b,6,none⟩ (.slice a ln cap)
theorem Gr.set7 {g:Nat} {a0 w:World} (h:Gr g a0 w) {b:Nat} (hb:a0.heap.size≤b) (nm:ByteArray) (pa:Option Addr) (pn pc:Nat) (k o:Int) (s:ByteArray) (n:Int) (a:Option Addr) (ln cap:Nat):Gr g a0 (set7 w b nm pa pn pc k o s n a ln cap) :=
 ((((((h.set (Or.inl hb) _).set (Or.inl hb) _).set (Or.inl hb) _).set (Or.inl hb) _).set (Or.inl hb) _).set (Or.inl hb) _).set (Or.inl hb) _
theorem set7_row {w:World} {b:Nat} {c0 c1 c2 c3 c4 c5 c6:Value} (h:w.heap[b]? = some (.cells #[c0,c1,c2,c3,c4,c5,c6] 70 (0,0))) (nm:ByteArray) (pa:Option Addr) (pn pc:Nat) (k o:Int) (s:ByteArray) (n:Int) (a:Option Addr) (ln cap:Nat):(set7 w b nm pa pn pc k o s n a ln cap).heap[b]? = some (funO nm pa pn pc k o s n a ln cap):=by
 have h7:=row_set (row_set (row_set (row_set (row_set (row_set (row_set h 0 (.string nm)) 1 (.slice pa pn pc)) 2 (.int .i64 k)) 3 (.int .i64 o)) 4 (.string s)) 5 (.int .i64 n)) 6 (.slice a ln cap)
 simpa only [List.setIfInBounds_toArray,List.set_cons_zero,List.set_cons_succ] using h7
theorem set7_block {w:World} {b x:Nat} (hx:x≠b) (nm:ByteArray) (pa:Option Addr) (pn pc:Nat) (k o:Int) (s:ByteArray) (n:Int) (a:Option Addr) (ln cap:Nat):(set7 w b nm pa pn pc k o s n a ln cap).heap[x]? = w.heap[x]?:=by
 rw[Below.heap_setCell _ _ _ _ hx,Below.heap_setCell _ _ _ _ hx,Below.heap_setCell _ _ _ _ hx,Below.heap_setCell _ _ _ _ hx,Below.heap_setCell _ _ _ _ hx,Below.heap_setCell _ _ _ _ hx,Below.heap_setCell _ _ _ _ hx]
theorem set7_size (w:World) (b:Nat) (nm:ByteArray) (pa:Option Addr) (pn pc:Nat) (k o:Int) (s:ByteArray) (n:Int) (a:Option Addr) (ln cap:Nat):(set7 w b nm pa pn pc k o s n a ln cap).heap.size=w.heap.size:=by
 simp[World.setCell]
theorem res_fun {fn:Func} {p:Tmp} (h:fn.results = #[.cell p 70]) (tmps:Array Value) (w:World) (b:Nat) (nm:ByteArray) (pa:Option Addr) (pn pc:Nat) (k o:Int) (s:ByteArray) (n:Int) (a:Option Addr) (ln cap:Nat) (hp:tmps.getD p undef = .pointer (some ⟨b,0,none⟩)) (hg:w.heap[b]? = some (funO nm pa pn pc k o s n a ln cap)) :
  (results fn tmps).run Tryz.prog w = .ok (funV nm pa pn pc k o s n a ln cap) w :=
 results_cell_row h tmps w b _ _ _ _ hp hg Tryz.underlying70 rfl (by kernel_rfl)
def RepFn (w:World) (F:Nat→Prop) (p:PFn) (v:Value):Prop :=
 ∃ pa pc a cap,v=funV p.nm pa p.ps.length pc p.bd.k p.bd.o p.bd.s p.bd.n a p.bd.l.length cap∧p.ps.length≤pc∧RepS w F p.ps pa∧p.bd.l.length≤cap∧RepNL w F p.bd.l a
end
section
abbrev fnC (p:PFn) (pa:Option Addr) (pc:Nat) (a:Option Addr) (cap:Nat):List Value:=[.string p.nm,.slice pa p.ps.length pc,.int .i64 p.bd.k,.int .i64 p.bd.o,.string p.bd.s,.int .i64 p.bd.n,.slice a p.bd.l.length cap]
def RowF (w:World) (F:Nat→Prop):List PFn→List Value→Prop
 | [],xs=>xs = []
 | p :: ps,xs => ∃ pa pc a cap rest,xs=fnC p pa pc a cap++rest∧p.ps.length≤pc∧RepS w F p.ps pa∧p.bd.l.length≤cap∧RepNL w F p.bd.l a∧RowF w F ps rest
theorem RowF.to {w w':World} {F F':Nat→Prop} (h:∀ b,F b→F' b∧w'.heap[b]? = w.heap[b]?):∀ {ps:List PFn} {xs:List Value},RowF w F ps xs→RowF w' F' ps xs:=by
 intro ps
 induction ps with
 | nil=>intro xs hx;exact hx
 | cons p ps ih =>
  intro xs hx;obtain⟨pa,pc,a,cap,rest,e,hp,hs,hb,hl,hr⟩:=hx;exact⟨pa,pc,a,cap,rest,e,hp,hs.to h,hb,RepNL.to h _ _ hl,ih hr⟩
theorem RowF.snoc {w:World} {F:Nat→Prop} {p:PFn} {pa:Option Addr} {pc:Nat} {a:Option Addr} {cap:Nat} (hp:p.ps.length≤pc) (hs:RepS w F p.ps pa) (hb:p.bd.l.length≤cap) (hl:RepNL w F p.bd.l a) :
  ∀ {ps:List PFn} {xs:List Value},RowF w F ps xs→RowF w F (ps++[p]) (xs++fnC p pa pc a cap):=by
 intro ps
 induction ps with
 | nil =>
  intro xs hx;have:xs = []:=hx;subst this;exact⟨pa,pc,a,cap,[],by simp,hp,hs,hb,hl,rfl⟩
 | cons q ps ih =>
  intro xs hx;obtain⟨pa',pc',a',cap',rest,e,hp',hs',hb',hl',hr⟩:=hx;exact⟨pa',pc',a',cap',rest++_,by rw[e];simp,hp',hs',hb',hl',ih hr⟩
def RepFL (w:World) (F:Nat→Prop) (ps:List PFn) (a:Option Addr):Prop :=
 ps = []∨∃ b off xs,a=some ⟨b,off,none⟩∧F b∧RowF w F ps xs∧∀ j u,xs[j]? = some u→w.cell? ⟨b,off+j,none⟩=some u
theorem RepFL.to {w w':World} {F F':Nat→Prop} (h:∀ b,F b→F' b∧w'.heap[b]? = w.heap[b]?) {ps:List PFn} {a:Option Addr} (hr:RepFL w F ps a):RepFL w' F' ps a:=by
 rcases hr with hr | ⟨b,off,xs,rfl,hb,hx,hc⟩
 ·exact Or.inl hr
 ·exact Or.inr ⟨b,off,xs,rfl,(h b hb).1,hx.to h,fun j u hu=>by rw[World.cell?_of_block (w:=w) (h b hb).2];exact hc j u hu⟩
theorem infoF:(Tryz.prog.info? 70).map (fun i=>(i.zero,i.size,i.bytes))=some (some (funV zE none 0 0 0 0 zE 0 none 0 0),7,104):=by kernel_rfl
theorem heldF_on {x base:Nat} {wr w2:World} {acc:List PFn} {v:Value} {n:Nat} {xs:List Value} (hx:wr.ownsRow base 70 7 v n xs∧RowF wr (fun b=>base≤b∧b < wr.heap.size∧some b≠v.ownBlock) acc xs) (k:Gr x wr w2) (hb:x < base) :
  w2.ownsRow base 70 7 v n xs∧RowF w2 (fun b=>base≤b∧b < w2.heap.size∧some b≠v.ownBlock) acc xs :=
 ⟨own_gr hx.1 k hb,RowF.to (fun b hb=>⟨⟨hb.1,Nat.lt_of_lt_of_le hb.2.1 k.size,hb.2.2⟩,k.block b hb.2.1 (by have:=hb.1;omega)⟩) hx.2⟩
theorem own_F {wr:World} {base:Nat} {acc:List PFn} {ao:Option Addr} {cap:Nat} (h:∃ xs,wr.ownsRow base 70 7 (.slice ao acc.length cap) acc.length xs∧RowF wr (fun b=>base≤b∧b < wr.heap.size∧some b≠(Value.slice ao acc.length cap).ownBlock) acc xs):acc.length≤cap∧RepFL wr (Fr base wr.heap.size) acc ao:=by
 obtain⟨xs,ho,hr⟩:=h;obtain⟨hlen,⟨e,h0⟩ | ⟨b,cap2,cur,e,hb,hrow,hc,_⟩⟩:=id ho
 ·have:acc = []:=List.length_eq_zero_iff.1 h0
  subst this;exact⟨Nat.zero_le _,Or.inl rfl⟩
 ·injection e with e1 e2 e3
  subst e1 e3;exact⟨hc,Or.inr ⟨b,0,xs,rfl,⟨hb,(Array.getElem?_eq_some_iff.1 hrow).1⟩,RowF.to (fun x hx=>⟨⟨hx.1,hx.2.1⟩,rfl⟩) hr,cells_own ho⟩⟩
theorem one_fun (nm:ByteArray) (pa:Option Addr) (pn pc:Nat) (k o:Int) (s:ByteArray) (n:Int) (a:Option Addr) (ln cap:Nat):∀ u ∈ ([.string nm,.slice pa pn pc,.int .i64 k,.int .i64 o,.string s,.int .i64 n,.slice a ln cap]:List Value),u.oneCell' = true:=by
 intro u hu;simp at hu;rcases hu with rfl | rfl | rfl | rfl | rfl | rfl | rfl <;> rfl
end
end Go.Proofs.YtjnpehohialmbaaGreat
