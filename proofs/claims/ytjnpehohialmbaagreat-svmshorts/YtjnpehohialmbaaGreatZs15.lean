/- The statement that sets a name,in the document's own reader. -/
import Derived.Test.YtjnpehohialmbaaGreatZs14
set_option linter.unusedSimpArgs false
set_option linter.unusedVariables false
set_option maxRecDepth 10000
set_option maxHeartbeats 8000000
namespace Go.Proofs.YtjnpehohialmbaaGreat
open Go.RowKit
section
variable {w w':World} {g len:Nat} {T:List Tk} {wd:Int} {st:PS}
theorem stmt_set (ex bl ch:Rdr) (hge:GoodR ex) (hex:∀ s:PS,s.ts.length < st.ts.length→RIs g len T wd 1 ex s) (h0:st.e=0) (hset:st.isSet=true) (h:Rp w g len T wd st) :
  Calls Tryz.prog 65 #[.pointer (some ⟨g,0,none⟩)] w (RNode w g len T wd (stmP len ex bl ch st)):=by
 have hg:=h.lt;have hset2:=hset;unfold PS.isSet at hset2;rw[Bool.and_eq_true] at hset2;have hk:(hdT st.ts 0).k=1:=by simpa using hset2.1
 have hyy:=hset2.2;have hne:st.ts≠[]:=fun e=>by rw[hd_nil e] at hk;exact absurd hk (by decide)
 have w_if:st.isW ⟨#[105,102]⟩=false:=noW (by rw[hk];decide) _;have w_while:st.isW ⟨#[119,104,105,108,101]⟩=false:=noW (by rw[hk];decide) _;have w_let:st.isW ⟨#[108,101,116]⟩=false:=noW (by rw[hk];decide) _;have w_break:st.isW ⟨#[98,114,101,97,107]⟩=false:=noW (by rw[hk];decide) _;have w_continue:st.isW ⟨#[99,111,110,116,105,110,117,101]⟩=false:=noW (by rw[hk];decide) _;have w_return:st.isW ⟨#[114,101,116,117,114,110]⟩=false:=noW (by rw[hk];decide) _;have w_print:st.isW ⟨#[112,114,105,110,116]⟩=false:=noW (by rw[hk];decide) _;obtain⟨sq,hsq⟩:∃ sq,sq=(st.name len).2.sign len ⟨#[61]⟩:=⟨_,rfl⟩;have e1:stmP len ex bl ch st=(⟨2,0,(st.name len).1,0,[(ex sq).1]⟩,(ex sq).2.sign len ⟨#[59]⟩):=by
  unfold stmP;rw[w_let,hset,hsq];rfl
 rw[e1];have hnm:(st.name len).2=st.next:=by unfold PS.name;rw[if_pos hk]
 have hn1:st.next.ts.length < st.ts.length:=next_lt_of hne;have hn3:=psign_le (st.name len).2 len ⟨#[61]⟩;have H:=zh h;have HIf:=zh (fun (W:World) (x:Rp W g len T wd st)=>is_no x h0 ⟨#[105,102]⟩ (by decide +kernel) w_if);have HT_while:=zh (fun (W:World) (x:Rp W g len T wd st)=>take_no x ⟨#[119,104,105,108,101]⟩ (by decide +kernel) w_while);have HT_let:=zh (fun (W:World) (x:Rp W g len T wd st)=>take_no x ⟨#[108,101,116]⟩ (by decide +kernel) w_let);have HT_break:=zh (fun (W:World) (x:Rp W g len T wd st)=>take_no x ⟨#[98,114,101,97,107]⟩ (by decide +kernel) w_break);have HT_continue:=zh (fun (W:World) (x:Rp W g len T wd st)=>take_no x ⟨#[99,111,110,116,105,110,117,101]⟩ (by decide +kernel) w_continue)
 have HT_return:=zh (fun (W:World) (x:Rp W g len T wd st)=>take_no x ⟨#[114,101,116,117,114,110]⟩ (by decide +kernel) w_return);have HT_print:=zh (fun (W:World) (x:Rp W g len T wd st)=>take_no x ⟨#[112,114,105,110,116]⟩ (by decide +kernel) w_print);have HNm:=zh (fun (W:World) (x:Rp W g len T wd st)=>name_r x);have HEq:Hd (∀ W,Rp W g len T wd (st.name len).2→Calls Tryz.prog 33 #[.pointer (some ⟨g,0,none⟩),.string ⟨#[61]⟩] W (RAns W g len T wd (.tuple #[]) sq)):=fun W x=>by rw[hsq];exact want_s x ⟨#[61]⟩ (by decide +kernel)
 have HEx:=zh (hex sq (by rw[hsq];rw[hnm] at hn3 ⊢;omega));unfold RIs at HEx;have k2':=name_kp h.nv len;have k3:=psign_kp (k2'.nv h.nv) len ⟨#[61]⟩;rw[← hsq] at k3;have nq:=k3.nv (k2'.nv h.nv);have HKS:=zh (psign_kp ((hge sq nq).nv nq) len ⟨#[59]⟩);have HG:=zh (fun (W:World) (x:Rp W g len T wd (ex sq).2)=>want_s x ⟨#[59]⟩ (by decide +kernel));clear h e1 hex hge nq k2' k3 hsq hn3 hn1 hnm hset hset2;generalize (st.name len)=qn at *;obtain⟨qs,st2⟩:=qn;have hwg:(w.heap.size == g)=false:=by simp;omega
 have hwg1:(w.heap.size+1 == g)=false:=by simp;omega
 go_enter Tryz.func65,Tryz.ntmps65
 go_wp2_with (first
  | (have T9:=zu H;go_at_call 63;refine Calls.mono (zu HIf _ (NS.start T9).rs) ?_;rintro e w0 ⟨rfl,hw⟩;have N0:=zh ((NS.start T9).ext hw);clear hw T9 H)
  | (have T9:=zu N0;go_at_call 35;refine Calls.mono (zu HT_while _ T9.rs) ?_;rintro e w1 ⟨rfl,hs,hw⟩;have N1:=zh (T9.go hs hw);clear hw hs T9 N0)
  | (have T9:=zu N1;go_at_call 35;refine Calls.mono (zu HT_let _ T9.rs) ?_;rintro e w2 ⟨rfl,hs,hw⟩;have N2:=zh (T9.go hs hw);clear hw hs T9 N1)
  | (have T9:=zu N2;go_at_call 35;refine Calls.mono (zu HT_break _ T9.rs) ?_;rintro e w3 ⟨rfl,hs,hw⟩;have N3:=zh (T9.go hs hw);clear hw hs T9 N2)
  | (have T9:=zu N3;go_at_call 35;refine Calls.mono (zu HT_continue _ T9.rs) ?_;rintro e w4 ⟨rfl,hs,hw⟩;have N4:=zh (T9.go hs hw);clear hw hs T9 N3)
  | (have T9:=zu N4;go_at_call 35;refine Calls.mono (zu HT_return _ T9.rs) ?_;rintro e w5 ⟨rfl,hs,hw⟩;have N5:=zh (T9.go hs hw);clear hw hs T9 N4)
  | (have T9:=zu N5;go_at_call 35;refine Calls.mono (zu HT_print _ T9.rs) ?_;rintro e w6 ⟨rfl,hs,hw⟩;have N6:=zh (T9.go hs hw);clear hw hs T9 N5))
 have hnt:=(zu N6).rs.tl;rcases (zu N6).rs.hd h0 with⟨hn,_⟩ | ⟨b,off,cap,i,pl,x,r,hx,hi,hd,h1,hb,hcc,hcm,p0,p1,p2,p3,hV⟩
 ·exact absurd hn hne
 have hy3:hdT st.ts 1=(T[i+1]?).getD tkZ:=by
  unfold hdT;rw[hx,← hd,List.getElem?_drop]
 have hi1:i+1 < T.length:=by
  apply Nat.lt_of_not_le;intro hle;rw[hy3,List.getElem?_eq_none hle] at hyy;cases hyy
 obtain⟨b',off',cap',y,hsl,_,_,_,hy',q0,q1,q2,q3⟩:=hV.at (i+1) hi1;injection hsl with e1 _ _;injection e1 with e1;injection e1 with e1 e2 _;subst e1 e2;have hy2:(T[i+1]?).getD tkZ=y:=hy';rw[hy3,hy2] at hyy;unfold isT at hyy;rw[Bool.and_eq_true] at hyy;have hyk:(y.k == 6)=true:=hyy.1;have hyt2:(y.t.toList == [61])=true:=by simpa using hyy.2
 obtain⟨c0,c1,c2,c3,c4,c5,c6,zf⟩:=rp_c h1;have HW:Nonempty (RGw w6):=⟨⟨w6,Ext.refl _⟩⟩;have HK:Hd (∀ W,Ext w6 W→Calls Tryz.prog 62 #[.pointer (some ⟨g,0,none⟩)] W fun e w'=>e = .returned (.int .i64 1)∧Ext W w'):=fun W x=>by
  have h9:=kind_r ((zu N6).rs.ext x) h0;rw[hk] at h9;exact h9
 have k0:∀ z:RGw w6,z.w.cell? ⟨g,0,none⟩=some (.slice (some ⟨b,off,none⟩) T.length cap):=fun z=>z.h.cell c0;have k1:∀ z:RGw w6,z.w.cell? ⟨g,1,none⟩=some (.int .i64 (i:Int)):=fun z=>z.h.cell c1;have k3:∀ z:RGw w6,z.w.cell? ⟨b,off+(i+1) * 4,none⟩=some (.int .i64 y.k):=fun z=>z.h.cell q0;have k4:∀ z:RGw w6,z.w.cell? ⟨b,off+(i+1) * 4+1,none⟩=some (.string y.t):=fun z=>z.h.cell q1;clear h1 hx hV hy3 hd hy2 hy' hyy c2 c3 c4 c5 c6 zf p0 p1 p2 p3;generalize T.length=N at *;have hq3:(i:Int)+1 < (N:Int):=by omega
 have hq2:decide ((i:Int)+1 < (N:Int))=true:=by simp;omega
 refine wp_region_rx (W:=w6) (by kernel_rfl) (by kernel_rfl) (Ext.refl _) ?_
 repeat (go_big_quiet_step (first
  | (go_at_call 62;exact Calls.rx_of _ _ (zu HK _ (RGw.h _)))))
 refine wpQuiet_nil ?_;rintro w7 ⟨n7,hn7⟩;have hx7:Ext w6 w7:=hn7 ▸ n7.h;have N7:=zh ((zu N6).ext hx7);clear hn7 n7 hx7 HW HK N6;clear k0 k1 k3 k4 q0 q1 q2 q3 c0 c1
 go_wp2_with (first
  | (have T9:=zu N7;go_at_call 34;refine Calls.mono (zu HNm _ T9.rs) ?_;rintro e w8 ⟨rfl,hs,hw⟩;have N8:=zh (T9.go hs hw);have N9:=zh ((zu N8).set 2 qs);have d0:=zr (zu N8).r3 0 rfl;have d1:=zr (zu N8).r3 1 rfl;have d2:=zr (zu N8).r3 2 rfl;have d3:=zr (zu N8).r3 3 rfl;have d4:=zr (zu N8).r3 4 rfl;have dz:=rowF (zu N8).r3;have hlt3:=(zu N8).lt;clear hw hs T9 N7)
  | (have T9:=zu N9;go_at_call 33;refine Calls.mono (zu HEq _ T9.rs) ?_;rintro e w10 ⟨rfl,hs,hw⟩;have N10:=zh (T9.go hs hw);clear d0 d1 d2 d3 d4 dz;clear hw hs T9 N9)
  | (have T9:=zu N10;go_at_call 97;refine Calls.mono (zu HEx _ T9.rs) ?_;rintro e w11 ⟨v,p5,rfl,hr,hp,hs,hw⟩;obtain⟨k2,o2,s2,n2,l2⟩:=p5;rw[RepN] at hr;obtain⟨a2,cap2,rfl,hcap2,hl3⟩:=hr;have N11:=zh (T9.go hs hw);have N12:=zh (T9.row (k:=k2) (o:=o2) (n2:=n2) (s:=s2) hs hw hl3 hcap2);have hlt11:=(zu N11).lt;have P5:=zh hp;have d0:=zr (zu N11).r3 0 rfl;have d1:=zr (zu N11).r3 1 rfl;have d2:=zr (zu N11).r3 2 rfl;have d3:=zr (zu N11).r3 3 rfl;have d4:=zr (zu N11).r3 4 rfl;have dz:=rowF (zu N11).r3;clear hw hs hl3 hp T9 N10)
  | (have T9:=zu N12;go_at_call 33;refine Calls.mono (zu HG _ T9.rs) ?_;rintro e w13 ⟨rfl,hs,hw⟩;have N13:=zh (T9.go hs hw);have r0:=zr (zu N13).r2 0 rfl;have r1:=zr (zu N13).r2 1 rfl;have r2:=zr (zu N13).r2 2 rfl;have r3:=zr (zu N13).r2 3 rfl;have r4:=zr (zu N13).r2 4 rfl;have rz:=rowF (zu N13).r2;have q0:=zr (zu N13).r3 0 rfl;have q1:=zr (zu N13).r3 1 rfl;have q2:=zr (zu N13).r3 2 rfl;have q3:=zr (zu N13).r3 3 rfl;have q4:=zr (zu N13).r3 4 rfl;have qz:=rowF (zu N13).r3;clear hw hs T9 N12))
 exact bodyPost_ret (v:=nodV 2 0 qs 0 (.slice (some ⟨w11.heap.size,0,none⟩) 1 1)) (res_nodR Tryz.results65 _ _ w.heap.size _ _ _ _ _ rfl (zu N13).end) rfl ((zu N13).fin (fun e=>by rw[zu P5 ((zu HKS).ok e).1]))
end
section
variable {w w':World} {g len:Nat} {T:List Tk} {wd:Int} {st:PS}
theorem stmt_do (ex bl ch:Rdr) (hge:GoodR ex) (hex:RIs g len T wd 1 ex st) (h0:st.e=0) (hset:st.isSet=false) (w_if:st.isW ⟨#[105,102]⟩=false) (w_while:st.isW ⟨#[119,104,105,108,101]⟩=false) (w_let:st.isW ⟨#[108,101,116]⟩=false) (w_break:st.isW ⟨#[98,114,101,97,107]⟩=false) (w_continue:st.isW ⟨#[99,111,110,116,105,110,117,101]⟩=false) (w_return:st.isW ⟨#[114,101,116,117,114,110]⟩=false) (w_print:st.isW ⟨#[112,114,105,110,116]⟩=false) (h:Rp w g len T wd st) :
  Calls Tryz.prog 65 #[.pointer (some ⟨g,0,none⟩)] w (RNode w g len T wd (stmP len ex bl ch st)):=by
 have hg:=h.lt;have e1:stmP len ex bl ch st=(⟨9,0,zE,0,[(ex st).1]⟩,(ex st).2.sign len ⟨#[59]⟩):=by
  unfold stmP;rw[w_let,hset,w_if,w_while,w_break,w_continue,w_return,w_print];rfl
 rw[e1];have H:=zh h;have HIf:=zh (fun (W:World) (x:Rp W g len T wd st)=>is_no x h0 ⟨#[105,102]⟩ (by decide +kernel) w_if);have HT_while:=zh (fun (W:World) (x:Rp W g len T wd st)=>take_no x ⟨#[119,104,105,108,101]⟩ (by decide +kernel) w_while);have HT_let:=zh (fun (W:World) (x:Rp W g len T wd st)=>take_no x ⟨#[108,101,116]⟩ (by decide +kernel) w_let);have HT_break:=zh (fun (W:World) (x:Rp W g len T wd st)=>take_no x ⟨#[98,114,101,97,107]⟩ (by decide +kernel) w_break);have HT_continue:=zh (fun (W:World) (x:Rp W g len T wd st)=>take_no x ⟨#[99,111,110,116,105,110,117,101]⟩ (by decide +kernel) w_continue);have HT_return:=zh (fun (W:World) (x:Rp W g len T wd st)=>take_no x ⟨#[114,101,116,117,114,110]⟩ (by decide +kernel) w_return)
 have HT_print:=zh (fun (W:World) (x:Rp W g len T wd st)=>take_no x ⟨#[112,114,105,110,116]⟩ (by decide +kernel) w_print);have HEx:=zh hex;unfold RIs at HEx;have HKS:=zh (psign_kp ((hge st h.nv).nv h.nv) len ⟨#[59]⟩);have HG:=zh (fun (W:World) (x:Rp W g len T wd (ex st).2)=>want_s x ⟨#[59]⟩ (by decide +kernel));clear h e1 hex hge;have hwg:(w.heap.size == g)=false:=by simp;omega
 have hwg1:(w.heap.size+1 == g)=false:=by simp;omega
 go_enter Tryz.func65,Tryz.ntmps65
 go_wp2_with (first
  | (have T9:=zu H;go_at_call 63;refine Calls.mono (zu HIf _ (NS.start T9).rs) ?_;rintro e w0 ⟨rfl,hw⟩;have N0:=zh ((NS.start T9).ext hw);clear hw T9 H)
  | (have T9:=zu N0;go_at_call 35;refine Calls.mono (zu HT_while _ T9.rs) ?_;rintro e w1 ⟨rfl,hs,hw⟩;have N1:=zh (T9.go hs hw);clear hw hs T9 N0)
  | (have T9:=zu N1;go_at_call 35;refine Calls.mono (zu HT_let _ T9.rs) ?_;rintro e w2 ⟨rfl,hs,hw⟩;have N2:=zh (T9.go hs hw);clear hw hs T9 N1)
  | (have T9:=zu N2;go_at_call 35;refine Calls.mono (zu HT_break _ T9.rs) ?_;rintro e w3 ⟨rfl,hs,hw⟩;have N3:=zh (T9.go hs hw);clear hw hs T9 N2)
  | (have T9:=zu N3;go_at_call 35;refine Calls.mono (zu HT_continue _ T9.rs) ?_;rintro e w4 ⟨rfl,hs,hw⟩;have N4:=zh (T9.go hs hw);clear hw hs T9 N3)
  | (have T9:=zu N4;go_at_call 35;refine Calls.mono (zu HT_return _ T9.rs) ?_;rintro e w5 ⟨rfl,hs,hw⟩;have N5:=zh (T9.go hs hw);clear hw hs T9 N4)
  | (have T9:=zu N5;go_at_call 35;refine Calls.mono (zu HT_print _ T9.rs) ?_;rintro e w6 ⟨rfl,hs,hw⟩;have N6:=zh (T9.go hs hw);clear hw hs T9 N5))
 by_cases hk:(hdT st.ts 0).k=1
 case neg =>
  have hkb:((hdT st.ts 0).k == 1)=false:=by simpa using hk
  have HW:Nonempty (RGw w6):=⟨⟨w6,Ext.refl _⟩⟩;have HK:Hd (∀ W,Ext w6 W→Calls Tryz.prog 62 #[.pointer (some ⟨g,0,none⟩)] W fun e w'=>e = .returned (.int .i64 (hdT st.ts 0).k)∧Ext W w'):=fun W x=>kind_r ((zu N6).rs.ext x) h0;generalize (hdT st.ts 0).k=kd at *;refine wp_region_rx (W:=w6) (by kernel_rfl) (by kernel_rfl) (Ext.refl _) ?_
  repeat (go_big_quiet_step (first
   | (go_at_call 62;exact Calls.rx_of _ _ (zu HK _ (RGw.h _)))))
  refine wpQuiet_nil ?_;rintro w7 ⟨n7,hn7⟩;have hx7:Ext w6 w7:=hn7 ▸ n7.h;have N7:=zh ((zu N6).ext hx7);clear hn7 n7 hx7 HW HK N6
  go_wp2_with (first
   | (have T9:=zu N7;go_at_call 97;refine Calls.mono (zu HEx _ T9.rs) ?_;rintro e w8 ⟨v,p5,rfl,hr,hp,hs,hw⟩;obtain⟨k2,o2,s2,n2,l2⟩:=p5;rw[RepN] at hr;obtain⟨a2,cap2,rfl,hcap2,hl3⟩:=hr;have N8:=zh (T9.go hs hw);have N9:=zh (T9.lit (k:=k2) (o:=o2) (n2:=n2) (s:=s2) hs hw hl3 hcap2 9 zE);have hlt8:=(zu N8).lt;have P5:=zh hp;have d0:=zr (zu N8).r3 0 rfl;have d1:=zr (zu N8).r3 1 rfl;have d2:=zr (zu N8).r3 2 rfl;have d3:=zr (zu N8).r3 3 rfl;have d4:=zr (zu N8).r3 4 rfl;have dz:=rowF (zu N8).r3;clear hw hs hl3 hp T9 N7)
   | (have T9:=zu N9;go_at_call 33;refine Calls.mono (zu HG _ T9.rs) ?_;rintro e w10 ⟨rfl,hs,hw⟩;have N10:=zh (T9.go hs hw);have r0:=zr (zu N10).r2 0 rfl;have r1:=zr (zu N10).r2 1 rfl;have r2:=zr (zu N10).r2 2 rfl;have r3:=zr (zu N10).r2 3 rfl;have r4:=zr (zu N10).r2 4 rfl;have rz:=rowF (zu N10).r2;have q0:=zr (zu N10).r3 0 rfl;have q1:=zr (zu N10).r3 1 rfl;have q2:=zr (zu N10).r3 2 rfl;have q3:=zr (zu N10).r3 3 rfl;have q4:=zr (zu N10).r3 4 rfl;have qz:=rowF (zu N10).r3;clear hw hs T9 N9))
  exact bodyPost_ret (v:=nodV 9 0 zE 0 (.slice (some ⟨w8.heap.size,0,none⟩) 1 1)) (res_nodR Tryz.results65 _ _ w.heap.size _ _ _ _ _ rfl (zu N10).end) rfl ((zu N10).fin (fun e=>by rw[zu P5 ((zu HKS).ok e).1]))
 have hnt:=(zu N6).rs.tl;rcases (zu N6).rs.hd h0 with⟨hn,_⟩ | ⟨b,off,cap,i,pl,x,r,hx,hi,hd,h1,hb,hcc,hcm,p0,p1,p2,p3,hV⟩
 ·rw[hd_nil hn] at hk;exact absurd hk (by decide)
 have hy3:hdT st.ts 1=(T[i+1]?).getD tkZ:=by
  unfold hdT;rw[hx,← hd,List.getElem?_drop]
 have hyy:isT (hdT st.ts 1) 6 ⟨#[61]⟩=false:=by
  unfold PS.isSet at hset;rw[hk] at hset;exact hset
 rw[hy3] at hyy;obtain⟨c0,c1,c2,c3,c4,c5,c6,zf⟩:=rp_c h1;by_cases hi1:i+1 < T.length
 ·obtain⟨b',off',cap',y,hsl,_,_,_,hy',q0,q1,q2,q3⟩:=hV.at (i+1) hi1
  injection hsl with e1 _ _;injection e1 with e1;injection e1 with e1 e2 _;subst e1 e2;have hy2:(T[i+1]?).getD tkZ=y:=hy';rw[hy2] at hyy;unfold isT at hyy;cases hyk:(y.k == 6)
  ·have HW:Nonempty (RGw w6):=⟨⟨w6,Ext.refl _⟩⟩
   have HK:Hd (∀ W,Ext w6 W→Calls Tryz.prog 62 #[.pointer (some ⟨g,0,none⟩)] W fun e w'=>e = .returned (.int .i64 1)∧Ext W w'):=fun W x=>by
    have h9:=kind_r ((zu N6).rs.ext x) h0;rw[hk] at h9;exact h9
   have k0:∀ z:RGw w6,z.w.cell? ⟨g,0,none⟩=some (.slice (some ⟨b,off,none⟩) T.length cap):=fun z=>z.h.cell c0;have k1:∀ z:RGw w6,z.w.cell? ⟨g,1,none⟩=some (.int .i64 (i:Int)):=fun z=>z.h.cell c1;have k3:∀ z:RGw w6,z.w.cell? ⟨b,off+(i+1) * 4,none⟩=some (.int .i64 y.k):=fun z=>z.h.cell q0;have k4:∀ z:RGw w6,z.w.cell? ⟨b,off+(i+1) * 4+1,none⟩=some (.string y.t):=fun z=>z.h.cell q1;clear h1 hx hV hy3 hy2 hy' hyy hd c2 c3 c4 c5 c6 zf p0 p1 p2 p3;generalize T.length=N at *;have hq3:(i:Int)+1 < (N:Int):=by omega
   have hq2:decide ((i:Int)+1 < (N:Int))=true:=by simp;omega
   refine wp_region_rx (W:=w6) (by kernel_rfl) (by kernel_rfl) (Ext.refl _) ?_
   repeat (go_big_quiet_step (first
    | (go_at_call 62;exact Calls.rx_of _ _ (zu HK _ (RGw.h _)))))
   refine wpQuiet_nil ?_;rintro w7 ⟨n7,hn7⟩;have hx7:Ext w6 w7:=hn7 ▸ n7.h;have N7:=zh ((zu N6).ext hx7);clear hn7 n7 hx7 HW HK N6;clear k0 k1 k3 k4 q0 q1 q2 q3 c0 c1
   go_wp2_with (first
    | (have T9:=zu N7;go_at_call 97;refine Calls.mono (zu HEx _ T9.rs) ?_;rintro e w8 ⟨v,p5,rfl,hr,hp,hs,hw⟩;obtain⟨k2,o2,s2,n2,l2⟩:=p5;rw[RepN] at hr;obtain⟨a2,cap2,rfl,hcap2,hl3⟩:=hr;have N8:=zh (T9.go hs hw);have N9:=zh (T9.lit (k:=k2) (o:=o2) (n2:=n2) (s:=s2) hs hw hl3 hcap2 9 zE);have hlt8:=(zu N8).lt;have P5:=zh hp;have d0:=zr (zu N8).r3 0 rfl;have d1:=zr (zu N8).r3 1 rfl;have d2:=zr (zu N8).r3 2 rfl;have d3:=zr (zu N8).r3 3 rfl;have d4:=zr (zu N8).r3 4 rfl;have dz:=rowF (zu N8).r3;clear hw hs hl3 hp T9 N7)
    | (have T9:=zu N9;go_at_call 33;refine Calls.mono (zu HG _ T9.rs) ?_;rintro e w10 ⟨rfl,hs,hw⟩;have N10:=zh (T9.go hs hw);have r0:=zr (zu N10).r2 0 rfl;have r1:=zr (zu N10).r2 1 rfl;have r2:=zr (zu N10).r2 2 rfl;have r3:=zr (zu N10).r2 3 rfl;have r4:=zr (zu N10).r2 4 rfl;have rz:=rowF (zu N10).r2;have q0:=zr (zu N10).r3 0 rfl;have q1:=zr (zu N10).r3 1 rfl;have q2:=zr (zu N10).r3 2 rfl;have q3:=zr (zu N10).r3 3 rfl;have q4:=zr (zu N10).r3 4 rfl;have qz:=rowF (zu N10).r3;clear hw hs T9 N9))
   exact bodyPost_ret (v:=nodV 9 0 zE 0 (.slice (some ⟨w8.heap.size,0,none⟩) 1 1)) (res_nodR Tryz.results65 _ _ w.heap.size _ _ _ _ _ rfl (zu N10).end) rfl ((zu N10).fin (fun e=>by rw[zu P5 ((zu HKS).ok e).1]))
  ·have hyt2:(y.t.toList == [61])=false:=by rw[hyk] at hyy;simpa using hyy
   have HW:Nonempty (RGw w6):=⟨⟨w6,Ext.refl _⟩⟩;have HK:Hd (∀ W,Ext w6 W→Calls Tryz.prog 62 #[.pointer (some ⟨g,0,none⟩)] W fun e w'=>e = .returned (.int .i64 1)∧Ext W w'):=fun W x=>by
    have h9:=kind_r ((zu N6).rs.ext x) h0;rw[hk] at h9;exact h9
   have k0:∀ z:RGw w6,z.w.cell? ⟨g,0,none⟩=some (.slice (some ⟨b,off,none⟩) T.length cap):=fun z=>z.h.cell c0;have k1:∀ z:RGw w6,z.w.cell? ⟨g,1,none⟩=some (.int .i64 (i:Int)):=fun z=>z.h.cell c1;have k3:∀ z:RGw w6,z.w.cell? ⟨b,off+(i+1) * 4,none⟩=some (.int .i64 y.k):=fun z=>z.h.cell q0;have k4:∀ z:RGw w6,z.w.cell? ⟨b,off+(i+1) * 4+1,none⟩=some (.string y.t):=fun z=>z.h.cell q1;clear h1 hx hV hy3 hy2 hy' hyy hd c2 c3 c4 c5 c6 zf p0 p1 p2 p3;generalize T.length=N at *;have hq3:(i:Int)+1 < (N:Int):=by omega
   have hq2:decide ((i:Int)+1 < (N:Int))=true:=by simp;omega
   refine wp_region_rx (W:=w6) (by kernel_rfl) (by kernel_rfl) (Ext.refl _) ?_
   repeat (go_big_quiet_step (first
    | (go_at_call 62;exact Calls.rx_of _ _ (zu HK _ (RGw.h _)))))
   refine wpQuiet_nil ?_;rintro w7 ⟨n7,hn7⟩;have hx7:Ext w6 w7:=hn7 ▸ n7.h;have N7:=zh ((zu N6).ext hx7);clear hn7 n7 hx7 HW HK N6;clear k0 k1 k3 k4 q0 q1 q2 q3 c0 c1
   go_wp2_with (first
    | (have T9:=zu N7;go_at_call 97;refine Calls.mono (zu HEx _ T9.rs) ?_;rintro e w8 ⟨v,p5,rfl,hr,hp,hs,hw⟩;obtain⟨k2,o2,s2,n2,l2⟩:=p5;rw[RepN] at hr;obtain⟨a2,cap2,rfl,hcap2,hl3⟩:=hr;have N8:=zh (T9.go hs hw);have N9:=zh (T9.lit (k:=k2) (o:=o2) (n2:=n2) (s:=s2) hs hw hl3 hcap2 9 zE);have hlt8:=(zu N8).lt;have P5:=zh hp;have d0:=zr (zu N8).r3 0 rfl;have d1:=zr (zu N8).r3 1 rfl;have d2:=zr (zu N8).r3 2 rfl;have d3:=zr (zu N8).r3 3 rfl;have d4:=zr (zu N8).r3 4 rfl;have dz:=rowF (zu N8).r3;clear hw hs hl3 hp T9 N7)
    | (have T9:=zu N9;go_at_call 33;refine Calls.mono (zu HG _ T9.rs) ?_;rintro e w10 ⟨rfl,hs,hw⟩;have N10:=zh (T9.go hs hw);have r0:=zr (zu N10).r2 0 rfl;have r1:=zr (zu N10).r2 1 rfl;have r2:=zr (zu N10).r2 2 rfl;have r3:=zr (zu N10).r2 3 rfl;have r4:=zr (zu N10).r2 4 rfl;have rz:=rowF (zu N10).r2;have q0:=zr (zu N10).r3 0 rfl;have q1:=zr (zu N10).r3 1 rfl;have q2:=zr (zu N10).r3 2 rfl;have q3:=zr (zu N10).r3 3 rfl;have q4:=zr (zu N10).r3 4 rfl;have qz:=rowF (zu N10).r3;clear hw hs T9 N9))
   exact bodyPost_ret (v:=nodV 9 0 zE 0 (.slice (some ⟨w8.heap.size,0,none⟩) 1 1)) (res_nodR Tryz.results65 _ _ w.heap.size _ _ _ _ _ rfl (zu N10).end) rfl ((zu N10).fin (fun e=>by rw[zu P5 ((zu HKS).ok e).1]))
 ·have HW:Nonempty (RGw w6):=⟨⟨w6,Ext.refl _⟩⟩
  have HK:Hd (∀ W,Ext w6 W→Calls Tryz.prog 62 #[.pointer (some ⟨g,0,none⟩)] W fun e w'=>e = .returned (.int .i64 1)∧Ext W w'):=fun W x=>by
   have h9:=kind_r ((zu N6).rs.ext x) h0;rw[hk] at h9;exact h9
  have k0:∀ z:RGw w6,z.w.cell? ⟨g,0,none⟩=some (.slice (some ⟨b,off,none⟩) T.length cap):=fun z=>z.h.cell c0;have k1:∀ z:RGw w6,z.w.cell? ⟨g,1,none⟩=some (.int .i64 (i:Int)):=fun z=>z.h.cell c1;clear h1 hx hV hy3 hyy hd c2 c3 c4 c5 c6 zf p0 p1 p2 p3;generalize T.length=N at *;have hq1:¬ ((i:Int)+1 < (N:Int)):=by omega
  have hq2:decide ((i:Int)+1 < (N:Int))=false:=by simp;omega
  refine wp_region_rx (W:=w6) (by kernel_rfl) (by kernel_rfl) (Ext.refl _) ?_
  repeat (go_big_quiet_step (first
   | (go_at_call 62;exact Calls.rx_of _ _ (zu HK _ (RGw.h _)))))
  refine wpQuiet_nil ?_;rintro w7 ⟨n7,hn7⟩;have hx7:Ext w6 w7:=hn7 ▸ n7.h;have N7:=zh ((zu N6).ext hx7);clear hn7 n7 hx7 HW HK N6;clear k0 k1 c0 c1
  go_wp2_with (first
   | (have T9:=zu N7;go_at_call 97;refine Calls.mono (zu HEx _ T9.rs) ?_;rintro e w8 ⟨v,p5,rfl,hr,hp,hs,hw⟩;obtain⟨k2,o2,s2,n2,l2⟩:=p5;rw[RepN] at hr;obtain⟨a2,cap2,rfl,hcap2,hl3⟩:=hr;have N8:=zh (T9.go hs hw);have N9:=zh (T9.lit (k:=k2) (o:=o2) (n2:=n2) (s:=s2) hs hw hl3 hcap2 9 zE);have hlt8:=(zu N8).lt;have P5:=zh hp;have d0:=zr (zu N8).r3 0 rfl;have d1:=zr (zu N8).r3 1 rfl;have d2:=zr (zu N8).r3 2 rfl;have d3:=zr (zu N8).r3 3 rfl;have d4:=zr (zu N8).r3 4 rfl;have dz:=rowF (zu N8).r3;clear hw hs hl3 hp T9 N7)
   | (have T9:=zu N9;go_at_call 33;refine Calls.mono (zu HG _ T9.rs) ?_;rintro e w10 ⟨rfl,hs,hw⟩;have N10:=zh (T9.go hs hw);have r0:=zr (zu N10).r2 0 rfl;have r1:=zr (zu N10).r2 1 rfl;have r2:=zr (zu N10).r2 2 rfl;have r3:=zr (zu N10).r2 3 rfl;have r4:=zr (zu N10).r2 4 rfl;have rz:=rowF (zu N10).r2;have q0:=zr (zu N10).r3 0 rfl;have q1:=zr (zu N10).r3 1 rfl;have q2:=zr (zu N10).r3 2 rfl;have q3:=zr (zu N10).r3 3 rfl;have q4:=zr (zu N10).r3 4 rfl;have qz:=rowF (zu N10).r3;clear hw hs T9 N9))
  exact bodyPost_ret (v:=nodV 9 0 zE 0 (.slice (some ⟨w8.heap.size,0,none⟩) 1 1)) (res_nodR Tryz.results65 _ _ w.heap.size _ _ _ _ _ rfl (zu N10).end) rfl ((zu N10).fin (fun e=>by rw[zu P5 ((zu HKS).ok e).1]))
end
section
variable {w w':World} {g len:Nat} {T:List Tk} {wd:Int} {st:PS}
theorem stmt_if (ex bl ch:Rdr) (hbr:RBrn g len T wd ch st) (h0:st.e=0) (hW:st.isW ⟨#[105,102]⟩=true) (h:Rp w g len T wd st) :
  Calls Tryz.prog 65 #[.pointer (some ⟨g,0,none⟩)] w (RNode w g len T wd (stmP len ex bl ch st)):=by
 have hg:=h.lt;have w_while:st.isW ⟨#[119,104,105,108,101]⟩=false:=onlyW hW (by decide +kernel);have w_let:st.isW ⟨#[108,101,116]⟩=false:=onlyW hW (by decide +kernel);have w_break:st.isW ⟨#[98,114,101,97,107]⟩=false:=onlyW hW (by decide +kernel);have w_continue:st.isW ⟨#[99,111,110,116,105,110,117,101]⟩=false:=onlyW hW (by decide +kernel);have w_return:st.isW ⟨#[114,101,116,117,114,110]⟩=false:=onlyW hW (by decide +kernel);have w_print:st.isW ⟨#[112,114,105,110,116]⟩=false:=onlyW hW (by decide +kernel);have e1:stmP len ex bl ch st=ch st.next:=by
  unfold stmP;rw[w_let,notSet hW,hW];rfl
 rw[e1];have H:=zh h;have HIf:Hd (∀ W,Rp W g len T wd st→Calls Tryz.prog 63 #[.pointer (some ⟨g,0,none⟩),.string ⟨#[105,102]⟩] W fun e w'=>e = .returned (.bool true)∧Ext W w'):=fun W x=>by
  have:=is_r x h0 ⟨#[105,102]⟩;rw[isA_W x h0 (by decide +kernel),hW] at this;exact this
 have HBr:Hd (∀ W,Rp W g len T wd st→Calls Tryz.prog 96 #[.pointer (some ⟨g,0,none⟩)] W (RNode W g len T wd (ch st.next))):=fun W x=>hbr W x h0 hW;clear h e1 hbr;have hwg:(w.heap.size == g)=false:=by simp;omega
 have hwg1:(w.heap.size+1 == g)=false:=by simp;omega
 go_enter Tryz.func65,Tryz.ntmps65
 go_wp2_with (first
  | (have T9:=zu H;go_at_call 63;refine Calls.mono (zu HIf _ (NS.start T9).rs) ?_;rintro e w0 ⟨rfl,hw⟩;have N0:=zh ((NS.start T9).ext hw);clear hw T9 H)
  | (have T9:=zu N0;go_at_call 96;refine Calls.mono (zu HBr _ T9.rs) ?_;rintro e w1 ⟨v,p5,rfl,hr,hp,hs,hw⟩;obtain⟨k2,o2,s2,n2,l2⟩:=p5;rw[RepN] at hr;obtain⟨a2,cap2,rfl,hcap2,hl3⟩:=hr;have N1:=zh (T9.go hs hw);have P5:=zh hp;have L5:=zh hl3;have hlt1:=T9.lt;have r0:=zr (zu N1).r2 0 rfl;have r1:=zr (zu N1).r2 1 rfl;have r2:=zr (zu N1).r2 2 rfl;have r3:=zr (zu N1).r2 3 rfl;have r4:=zr (zu N1).r2 4 rfl;have rz:=rowF (zu N1).r2;clear hw hs hl3 hp T9 N0))
 exact bodyPost_ret (v:=nodV k2 o2 s2 n2 (.slice a2 l2.length cap2)) (res_nodR Tryz.results65 _ _ w.heap.size _ _ _ _ _ rfl (set5_row (zu N1).r2 _ _ _ _ _)) rfl (rnode_end hg (zu N1).rs (zu N1).gr hcap2 (RepNL.to (fun b hb=>⟨⟨by have:=hb.1;omega,hb.2⟩,rfl⟩) _ _ (zu L5)) (zu P5))
end
section
variable {w w':World} {g len:Nat} {T:List Tk} {wd:Int} {st:PS}
theorem branch_none (ex bl ch bo:Rdr) (hge:GoodR ex) (hgb:GoodR bl) (hex:RIs g len T wd 1 ex st.next) (hbl:RBlk g len T wd bl (ex st.next).2) (hE:(bl (ex st.next).2).2.isW ⟨#[101,108,115,101]⟩=false) (h0:st.e=0) (hW:st.isW ⟨#[105,102]⟩=true) (h:Rp w g len T wd st) :
  Calls Tryz.prog 96 #[.pointer (some ⟨g,0,none⟩)] w (RNode w g len T wd (choP ex bl (othP ch bo) st.next)):=by
 have hg:=h.lt;have n1:=(next_kp h.nv).nv h.nv;have n2:=(hge st.next n1).nv n1;have HKS:=hgb (ex st.next).2 n2;have n3:=HKS.nv n2;have HWt:=zh (fun (W:World) (x:Rp W g len T wd st)=>want_w x ⟨#[105,102]⟩ (by decide +kernel));have ew:st.word len ⟨#[105,102]⟩=st.next:=by unfold PS.word;rw[hW];rfl
 rw[ew] at HWt;have H:=zh h;have HEx:=zh hex;unfold RIs at HEx;have HBl:=zh hbl;unfold RBlk at HBl;have HTe:=zh (fun (W:World) (x:Rp W g len T wd (bl (ex st.next).2).2)=>take_no x ⟨#[101,108,115,101]⟩ (by decide +kernel) hE);obtain⟨RS,hRS⟩:∃ RS,RS=choP ex bl (othP ch bo) st.next:=⟨_,rfl⟩;rw[← hRS];have hRS:RS=(⟨3,0,zE,0,[(ex st.next).1,(bl (ex st.next).2).1]⟩,(bl (ex st.next).2).2):=by rw[hRS];unfold choP;rw[hE];rfl
 rw[hRS];clear h hex hge hgb hbl n1 n2 ew hRS;generalize ex st.next=q1 at *;obtain⟨qn,u1⟩:=q1;simp only at *;generalize bl u1=q2 at *;obtain⟨qm,u2⟩:=q2;simp only at *;have HKS:=zh HKS;obtain⟨i0,hi,hz0,hz1,hz2⟩:=info_parts infoN;have HIN:=zh hi;have Z0:=zh hz0;have Z1:=zh hz1;have Z2:=zh hz2;clear hi hz0 hz1 hz2;have hwg:(w.heap.size == g)=false:=by simp;omega
 go_enter Tryz.func96,Tryz.ntmps96
 go_wp2_with (first
  | (have T9:=zu H;go_at_call 33;refine Calls.mono (zu HWt _ (T9.ext (Ext.alloc _ _))) ?_;rintro e w1 ⟨rfl,hs,hw⟩;have S1:=zh hs;have G1:=zh ((Gr.of (Ext.alloc w _)).trans hw);have R1:=zh (hw.row (Go.heap_alloc_new w _) (by omega));clear hw hs T9 H)
  | (have T9:=zu S1;go_at_call 97;refine Calls.mono (zu HEx _ T9) ?_;rintro e w2 ⟨v,p5,rfl,hr,hp,hs,hw⟩;obtain⟨k2,o2,s2,n2,l2⟩:=p5;rw[RepN] at hr;obtain⟨a2,cap2,rfl,hcap2,hl3⟩:=hr;have N3:=zh (NS.make (k:=k2) (o:=o2) (n2:=n2) (s:=s2) hg (zu R1) (zu G1) hs hw hl3 hcap2 3 zE);have P5:=zh hp;clear hw hs hl3 hp T9 S1 R1 G1))
 refine gen_world (F:=fun W=>Code.wp _ _ _ _ W) ?_;intro W9 hW9;have N40:NS g len T wd w W9 (w2.heap.size+1) u1 3 zE [⟨k2,o2,s2,n2,l2⟩] 1 (some ⟨w2.heap.size,0,none⟩) 1:=by rw[hW9];exact zu N3
 obtain⟨nA,hnA,N4⟩:∃ m,m≤1∧NS g len T wd w W9 (w2.heap.size+1) u1 3 zE [⟨k2,o2,s2,n2,l2⟩] m (some ⟨w2.heap.size,0,none⟩) 1:=⟨_,Nat.le_refl _,N40⟩;have N4:=zh N4;clear N40 hW9 N3;obtain⟨xsa,hxs⟩:=(zu N4).own;have HXSa:=zh hxs;clear hxs;have d0:W9.cell? ⟨(w2.heap.size+1),0,none⟩=some (.int .i64 3):=zr (zu N4).r3 0 rfl;have d1:W9.cell? ⟨(w2.heap.size+1),1,none⟩=some (.int .i64 0):=zr (zu N4).r3 1 rfl;have d2:W9.cell? ⟨(w2.heap.size+1),2,none⟩=some (.string zE):=zr (zu N4).r3 2 rfl;have d3:W9.cell? ⟨(w2.heap.size+1),3,none⟩=some (.int .i64 0):=zr (zu N4).r3 3 rfl;have d4:W9.cell? ⟨(w2.heap.size+1),4,none⟩=some (.slice (some ⟨w2.heap.size,0,none⟩) nA 1):=zr (zu N4).r3 4 rfl;have dz:=rowF (zu N4).r3;have hlta:=(zu N4).lt;have hBBa:=(zu N4).hB
 have hgga:=(zu N4).hg;have D0a:Hd (Gr g W9 W9.drew):=(Gr.refl _ _).drew;have D1a:Hd (Rp W9.drew g len T wd u1):=(zu N4).rs.ext (Ext.drew (Ext.refl _));have hne1:(w2.heap.size+1 == g)=false:=by simp;omega
 have hne2:(w.heap.size == w2.heap.size+1)=false:=by simp;omega
 have HBa:=zh (zu HBl _ (zu D1a));refine wp_nrm ?_
 first | skip;go_region_law (first
  | (refine step_call_one rfl 36 (.tmp 13) 65 rfl _ (by simp[Act.eval,Act.put]) (enterRBlk _ _) (Calls.mono (zu HBa) ?_);rintro e w6a ⟨v,p6,rfl,hr,hp,hs,hw⟩;obtain⟨k3a,o3a,s3a,n3a,l3a⟩:=p6;rw[RepN] at hr;obtain⟨a3a,c3a,rfl,hcap3a,hl⟩:=hr;have X6a:=zh ((zu D0a).trans hw);have RG:=zh ((zu X6a).row (zu N4).r3 (by omega));have d0:=zr (zu RG) 0 rfl;have d1:=zr (zu RG) 1 rfl;have d2:=zr (zu RG) 2 rfl;have d3:=zr (zu RG) 3 rfl;have d4:=zr (zu RG) 4 rfl;have dz:=rowF (zu RG);have S6a:=zh hs;have P6a:=zh hp;have L6a:Hd (RepNL w6a (Fr W9.heap.size w6a.heap.size) l3a a3a):=hl;have hz6a:W9.heap.size≤w6a.heap.size:=hw.size;have hb6a:(w2.heap.size+1) < w6a.heap.size:=(Array.getElem?_eq_some_iff.1 (zu RG)).1;clear hw hs hl hp;refine⟨_,rfl,?_⟩)
  | (refine step_append_where rfl (.tmp 12) (.tmp 15) 44 rfl (w.heap.size+1) 46 i0 (nodV 0 0 zE 0 (.slice none 0 0)) 5 64 Tryz.underlying44 (zu HIN) (zu Z0) (zu Z1) (zu Z2) rfl (by decide) (some ⟨w2.heap.size,0,none⟩) nA 1 xsa (by simp[Act.eval,Act.put]) (zu HXSa _ ((zu X6a).alloc _)).1 ⟨w6a.heap.size,0,none⟩ 1 1 [.int .i64 k3a,.int .i64 o3a,.string s3a,.int .i64 n3a,.slice a3a l3a.length c3a] (by simp[Act.eval,Act.put]) (by decide) rfl (cells_new w6a _ _) (one_cells _ _ _ _ _ _ _) (by unfold maxLen;omega) (by omega) (by simp;omega) ?_;intro g2a cap7a w7a ho7 hg7 hw7;have RZ:=zh ((zu N4).grown ((zu X6a).alloc _) hg7);have z0:=zr (zu RZ) 0 rfl;have z1:=zr (zu RZ) 1 rfl;have z2:=zr (zu RZ) 2 rfl;have z3:=zr (zu RZ) 3 rfl;have z4:=zr (zu RZ) 4 rfl;have zz:=rowF (zu RZ);have HO7a:=zh ho7;have HG7a:=zh hg7;have HW7a:=zh hw7;clear ho7 hg7 hw7)) | fail
 all_goals
  refine nrm_inB ?_;have N5:=zh (NS.snocA (k:=k3a) (o:=o3a) (n2:=n3a) (s:=s3a) (zu N4) (zu X6a) (zu S6a) hcap3a (zu L6a) _ (zu HXSa _ ((zu X6a).alloc _)) (zu HO7a) (zu HG7a) (zu HW7a))
  go_wp2_with (have T9:=zu N5;go_at_call 35;refine Calls.mono (zu HTe _ T9.rs) ?_;rintro e w8 ⟨rfl,hs,hw⟩;have N6:=zh (T9.go hs hw);have r0:=zr (zu N6).r2 0 rfl;have r1:=zr (zu N6).r2 1 rfl;have r2:=zr (zu N6).r2 2 rfl;have r3:=zr (zu N6).r2 3 rfl;have r4:=zr (zu N6).r2 4 rfl;have rz:=rowF (zu N6).r2;have q0:=zr (zu N6).r3 0 rfl;have q1:=zr (zu N6).r3 1 rfl;have q2:=zr (zu N6).r3 2 rfl;have q3:=zr (zu N6).r3 3 rfl;have q4:=zr (zu N6).r3 4 rfl;have qz:=rowF (zu N6).r3;clear hw hs T9 N5)
  exact bodyPost_ret (v:=nodV 3 0 zE 0 (.slice (some ⟨g2a,0,none⟩) (nA+1) cap7a)) (res_nodR Tryz.results96 _ _ w.heap.size _ _ _ _ _ rfl (zu N6).end) rfl ((zu N6).fin (fun e=>by rw[zu P5 ((zu HKS).ok e).1,zu P6a e];rfl))
end
section
variable {w w':World} {g len:Nat} {T:List Tk} {wd:Int} {st:PS}
theorem branch_else (ex bl ch bo:Rdr) (hge:GoodR ex) (hgb:GoodR bl) (hex:RIs g len T wd 1 ex st.next) (hbl:RBlk g len T wd bl (ex st.next).2) (hbo:RBlk g len T wd bo (bl (ex st.next).2).2.next) (hE:(bl (ex st.next).2).2.isW ⟨#[101,108,115,101]⟩=true) (hI:(bl (ex st.next).2).2.next.isW ⟨#[105,102]⟩=false) (h0:st.e=0) (hW:st.isW ⟨#[105,102]⟩=true) (h:Rp w g len T wd st) :
  Calls Tryz.prog 96 #[.pointer (some ⟨g,0,none⟩)] w (RNode w g len T wd (choP ex bl (othP ch bo) st.next)):=by
 have hg:=h.lt;have n1:=(next_kp h.nv).nv h.nv;have n2:=(hge st.next n1).nv n1;have HKS:=hgb (ex st.next).2 n2;have n3:=HKS.nv n2;have HWt:=zh (fun (W:World) (x:Rp W g len T wd st)=>want_w x ⟨#[105,102]⟩ (by decide +kernel));have ew:st.word len ⟨#[105,102]⟩=st.next:=by unfold PS.word;rw[hW];rfl
 rw[ew] at HWt;have H:=zh h;have HEx:=zh hex;unfold RIs at HEx;have HBl:=zh hbl;unfold RBlk at HBl;have HTe:=zh (fun (W:World) (x:Rp W g len T wd (bl (ex st.next).2).2)=>take_yes x ⟨#[101,108,115,101]⟩ (by decide +kernel) hE);have hu2:(bl (ex st.next).2).2.e=0:=by
  by_cases h9:(bl (ex st.next).2).2.e=0
  ·exact h9
  ·exact absurd (n3.nil h9) (isW_ne hE)
 have hu1:(ex st.next).2.e=0:=(HKS.ok hu2).1;have hun:(bl (ex st.next).2).2.next.e=0:=hu2;have HIs:Hd (∀ W,Rp W g len T wd (bl (ex st.next).2).2.next→Calls Tryz.prog 63 #[.pointer (some ⟨g,0,none⟩),.string ⟨#[105,102]⟩] W fun e w'=>e = .returned (.bool false)∧Ext W w'):=fun W x=>by
  have:=is_r x hun ⟨#[105,102]⟩;rw[isA_W x hun (by decide +kernel),hI] at this;exact this
 have HBo:=zh hbo;unfold RBlk at HBo;obtain⟨RS,hRS⟩:∃ RS,RS=choP ex bl (othP ch bo) st.next:=⟨_,rfl⟩;rw[← hRS];have hRS:RS=(⟨3,0,zE,0,[(ex st.next).1,(bl (ex st.next).2).1,(bo (bl (ex st.next).2).2.next).1]⟩,(bo (bl (ex st.next).2).2.next).2):=by rw[hRS];unfold choP;rw[hE];unfold othP;rw[hI];rfl
 rw[hRS];clear h hex hge hgb hbl n1 n2 ew hRS;generalize ex st.next=q1 at *;obtain⟨qn,u1⟩:=q1;simp only at *;generalize bl u1=q2 at *;obtain⟨qm,u2⟩:=q2;simp only at *;clear hbo hE hI HKS;generalize bo u2.next=q3 at *;obtain⟨ql,u3⟩:=q3;simp only at *;obtain⟨i0,hi,hz0,hz1,hz2⟩:=info_parts infoN;have HIN:=zh hi;have Z0:=zh hz0;have Z1:=zh hz1;have Z2:=zh hz2;clear hi hz0 hz1 hz2;have hwg:(w.heap.size == g)=false:=by simp;omega
 go_enter Tryz.func96,Tryz.ntmps96
 go_wp2_with (first
  | (have T9:=zu H;go_at_call 33;refine Calls.mono (zu HWt _ (T9.ext (Ext.alloc _ _))) ?_;rintro e w1 ⟨rfl,hs,hw⟩;have S1:=zh hs;have G1:=zh ((Gr.of (Ext.alloc w _)).trans hw);have R1:=zh (hw.row (Go.heap_alloc_new w _) (by omega));clear hw hs T9 H)
  | (have T9:=zu S1;go_at_call 97;refine Calls.mono (zu HEx _ T9) ?_;rintro e w2 ⟨v,p5,rfl,hr,hp,hs,hw⟩;obtain⟨k2,o2,s2,n2,l2⟩:=p5;rw[RepN] at hr;obtain⟨a2,cap2,rfl,hcap2,hl3⟩:=hr;have N3:=zh (NS.make (k:=k2) (o:=o2) (n2:=n2) (s:=s2) hg (zu R1) (zu G1) hs hw hl3 hcap2 3 zE);have P5:=zh hp;clear hw hs hl3 hp T9 S1 R1 G1))
 refine gen_world (F:=fun W=>Code.wp _ _ _ _ W) ?_;intro W9 hW9;have N40:NS g len T wd w W9 (w2.heap.size+1) u1 3 zE [⟨k2,o2,s2,n2,l2⟩] 1 (some ⟨w2.heap.size,0,none⟩) 1:=by rw[hW9];exact zu N3
 obtain⟨nA,hnA,N4⟩:∃ m,m≤1∧NS g len T wd w W9 (w2.heap.size+1) u1 3 zE [⟨k2,o2,s2,n2,l2⟩] m (some ⟨w2.heap.size,0,none⟩) 1:=⟨_,Nat.le_refl _,N40⟩;have N4:=zh N4;clear N40 hW9 N3;obtain⟨xsa,hxs⟩:=(zu N4).own;have HXSa:=zh hxs;clear hxs;have d0:W9.cell? ⟨(w2.heap.size+1),0,none⟩=some (.int .i64 3):=zr (zu N4).r3 0 rfl;have d1:W9.cell? ⟨(w2.heap.size+1),1,none⟩=some (.int .i64 0):=zr (zu N4).r3 1 rfl;have d2:W9.cell? ⟨(w2.heap.size+1),2,none⟩=some (.string zE):=zr (zu N4).r3 2 rfl;have d3:W9.cell? ⟨(w2.heap.size+1),3,none⟩=some (.int .i64 0):=zr (zu N4).r3 3 rfl;have d4:W9.cell? ⟨(w2.heap.size+1),4,none⟩=some (.slice (some ⟨w2.heap.size,0,none⟩) nA 1):=zr (zu N4).r3 4 rfl;have dz:=rowF (zu N4).r3;have hlta:=(zu N4).lt;have hBBa:=(zu N4).hB
 have hgga:=(zu N4).hg;have D0a:Hd (Gr g W9 W9.drew):=(Gr.refl _ _).drew;have D1a:Hd (Rp W9.drew g len T wd u1):=(zu N4).rs.ext (Ext.drew (Ext.refl _));have hne1:(w2.heap.size+1 == g)=false:=by simp;omega
 have hne2:(w.heap.size == w2.heap.size+1)=false:=by simp;omega
 have HBa:=zh (zu HBl _ (zu D1a));refine wp_nrm ?_
 first | skip;go_region_law (first
  | (refine step_call_one rfl 36 (.tmp 13) 65 rfl _ (by simp[Act.eval,Act.put]) (enterRBlk _ _) (Calls.mono (zu HBa) ?_);rintro e w6a ⟨v,p6,rfl,hr,hp,hs,hw⟩;obtain⟨k3a,o3a,s3a,n3a,l3a⟩:=p6;rw[RepN] at hr;obtain⟨a3a,c3a,rfl,hcap3a,hl⟩:=hr;have X6a:=zh ((zu D0a).trans hw);have RG:=zh ((zu X6a).row (zu N4).r3 (by omega));have d0:=zr (zu RG) 0 rfl;have d1:=zr (zu RG) 1 rfl;have d2:=zr (zu RG) 2 rfl;have d3:=zr (zu RG) 3 rfl;have d4:=zr (zu RG) 4 rfl;have dz:=rowF (zu RG);have S6a:=zh hs;have P6a:=zh hp;have L6a:Hd (RepNL w6a (Fr W9.heap.size w6a.heap.size) l3a a3a):=hl;have hz6a:W9.heap.size≤w6a.heap.size:=hw.size;have hb6a:(w2.heap.size+1) < w6a.heap.size:=(Array.getElem?_eq_some_iff.1 (zu RG)).1;clear hw hs hl hp;refine⟨_,rfl,?_⟩)
  | (refine step_append_where rfl (.tmp 12) (.tmp 15) 44 rfl (w.heap.size+1) 46 i0 (nodV 0 0 zE 0 (.slice none 0 0)) 5 64 Tryz.underlying44 (zu HIN) (zu Z0) (zu Z1) (zu Z2) rfl (by decide) (some ⟨w2.heap.size,0,none⟩) nA 1 xsa (by simp[Act.eval,Act.put]) (zu HXSa _ ((zu X6a).alloc _)).1 ⟨w6a.heap.size,0,none⟩ 1 1 [.int .i64 k3a,.int .i64 o3a,.string s3a,.int .i64 n3a,.slice a3a l3a.length c3a] (by simp[Act.eval,Act.put]) (by decide) rfl (cells_new w6a _ _) (one_cells _ _ _ _ _ _ _) (by unfold maxLen;omega) (by omega) (by simp;omega) ?_;intro g2a cap7a w7a ho7 hg7 hw7;have RZ:=zh ((zu N4).grown ((zu X6a).alloc _) hg7);have z0:=zr (zu RZ) 0 rfl;have z1:=zr (zu RZ) 1 rfl;have z2:=zr (zu RZ) 2 rfl;have z3:=zr (zu RZ) 3 rfl;have z4:=zr (zu RZ) 4 rfl;have zz:=rowF (zu RZ);have HO7a:=zh ho7;have HG7a:=zh hg7;have HW7a:=zh hw7;clear ho7 hg7 hw7)) | fail
 all_goals
  refine nrm_inB ?_;have N5:=zh (NS.snocA (k:=k3a) (o:=o3a) (n2:=n3a) (s:=s3a) (zu N4) (zu X6a) (zu S6a) hcap3a (zu L6a) _ (zu HXSa _ ((zu X6a).alloc _)) (zu HO7a) (zu HG7a) (zu HW7a));clear d0 d1 d2 d3 d4 dz
  go_wp2_with (first
   | (have T9:=zu N5;go_at_call 35;refine Calls.mono (zu HTe _ T9.rs) ?_;rintro e w8 ⟨rfl,hs,hw⟩;have N6:=zh (T9.go hs hw);clear hw hs T9 N5)
   | (have T9:=zu N6;go_at_call 63;refine Calls.mono (zu HIs _ T9.rs) ?_;rintro e w9 ⟨rfl,hw⟩;have N7:=zh (T9.ext hw);clear hw T9 N6))
  obtain⟨xsb,hxs⟩:=(zu N7).own;have HXSb:=zh hxs;clear hxs;have d0:w9.cell? ⟨(w2.heap.size+1),0,none⟩=some (.int .i64 3):=zr (zu N7).r3 0 rfl;have d1:w9.cell? ⟨(w2.heap.size+1),1,none⟩=some (.int .i64 0):=zr (zu N7).r3 1 rfl;have d2:w9.cell? ⟨(w2.heap.size+1),2,none⟩=some (.string zE):=zr (zu N7).r3 2 rfl;have d3:w9.cell? ⟨(w2.heap.size+1),3,none⟩=some (.int .i64 0):=zr (zu N7).r3 3 rfl;have d4:w9.cell? ⟨(w2.heap.size+1),4,none⟩=some (.slice (some ⟨g2a,0,none⟩) (nA+1) cap7a):=zr (zu N7).r3 4 rfl;have dz:=rowF (zu N7).r3;have hltb:=(zu N7).lt;have hBBb:=(zu N7).hB;have hggb:=(zu N7).hg;have D0b:Hd (Gr g w9 w9.drew):=(Gr.refl _ _).drew;have D1b:Hd (Rp w9.drew g len T wd u2.next):=(zu N7).rs.ext (Ext.drew (Ext.refl _))
  have HBb:=zh (zu HBo _ (zu D1b));refine wp_nrm ?_
  first | skip;go_region_law (first
   | (refine step_call_one rfl 36 (.tmp 37) 65 rfl _ (by simp[Act.eval,Act.put]) (enterRBlk _ _) (Calls.mono (zu HBb) ?_);rintro e w6b ⟨v,p6,rfl,hr,hp,hs,hw⟩;obtain⟨k3b,o3b,s3b,n3b,l3b⟩:=p6;rw[RepN] at hr;obtain⟨a3b,c3b,rfl,hcap3b,hl⟩:=hr;have X6b:=zh ((zu D0b).trans hw);have RG:=zh ((zu X6b).row (zu N7).r3 (by omega));have d0:=zr (zu RG) 0 rfl;have d1:=zr (zu RG) 1 rfl;have d2:=zr (zu RG) 2 rfl;have d3:=zr (zu RG) 3 rfl;have d4:=zr (zu RG) 4 rfl;have dz:=rowF (zu RG);have S6b:=zh hs;have P6b:=zh hp;have L6b:Hd (RepNL w6b (Fr w9.heap.size w6b.heap.size) l3b a3b):=hl;have hz6b:w9.heap.size≤w6b.heap.size:=hw.size;have hb6b:(w2.heap.size+1) < w6b.heap.size:=(Array.getElem?_eq_some_iff.1 (zu RG)).1;clear hw hs hl hp;refine⟨_,rfl,?_⟩)
   | (refine step_append_where rfl (.tmp 36) (.tmp 39) 44 rfl (w.heap.size+1) 46 i0 (nodV 0 0 zE 0 (.slice none 0 0)) 5 64 Tryz.underlying44 (zu HIN) (zu Z0) (zu Z1) (zu Z2) rfl (by decide) (some ⟨g2a,0,none⟩) (nA+1) cap7a xsb (by simp[Act.eval,Act.put]) (zu HXSb _ ((zu X6b).alloc _)).1 ⟨w6b.heap.size,0,none⟩ 1 1 [.int .i64 k3b,.int .i64 o3b,.string s3b,.int .i64 n3b,.slice a3b l3b.length c3b] (by simp[Act.eval,Act.put]) (by decide) rfl (cells_new w6b _ _) (one_cells _ _ _ _ _ _ _) (by unfold maxLen;omega) (by omega) (by simp;omega) ?_;intro g2b cap7b w7b ho7 hg7 hw7;have RZ:=zh ((zu N7).grown ((zu X6b).alloc _) hg7);have z0:=zr (zu RZ) 0 rfl;have z1:=zr (zu RZ) 1 rfl;have z2:=zr (zu RZ) 2 rfl;have z3:=zr (zu RZ) 3 rfl;have z4:=zr (zu RZ) 4 rfl;have zz:=rowF (zu RZ);have HO7b:=zh ho7;have HG7b:=zh hg7;have HW7b:=zh hw7;clear ho7 hg7 hw7)) | fail
  all_goals
   refine nrm_inB ?_;have N8:=zh (NS.snocA (k:=k3b) (o:=o3b) (n2:=n3b) (s:=s3b) (zu N7) (zu X6b) (zu S6b) hcap3b (zu L6b) _ (zu HXSb _ ((zu X6b).alloc _)) (zu HO7b) (zu HG7b) (zu HW7b));have r0:=zr (zu N8).r2 0 rfl;have r1:=zr (zu N8).r2 1 rfl;have r2:=zr (zu N8).r2 2 rfl;have r3:=zr (zu N8).r2 3 rfl;have r4:=zr (zu N8).r2 4 rfl;have rz:=rowF (zu N8).r2;have q0:=zr (zu N8).r3 0 rfl;have q1:=zr (zu N8).r3 1 rfl;have q2:=zr (zu N8).r3 2 rfl;have q3:=zr (zu N8).r3 3 rfl;have q4:=zr (zu N8).r3 4 rfl;have qz:=rowF (zu N8).r3
   go_wp2_with fail
   exact bodyPost_ret (v:=nodV 3 0 zE 0 (.slice (some ⟨g2b,0,none⟩) (nA+1+1) cap7b)) (res_nodR Tryz.results96 _ _ w.heap.size _ _ _ _ _ rfl (zu N8).end) rfl ((zu N8).fin (fun e=>by rw[zu P5 hu1,zu P6a hu2,zu P6b e];rfl))
end
end Go.Proofs.YtjnpehohialmbaaGreat
