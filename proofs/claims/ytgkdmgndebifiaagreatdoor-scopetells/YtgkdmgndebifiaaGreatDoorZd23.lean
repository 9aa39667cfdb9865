/- The statement that sets a name,in the document's own reader. · The statement that is an expression,in the document's own reader. · The statement if,in the document's own reader. · An if without else,in the document's own reader. -/
import Derived.Test.YtgkdmgndebifiaaGreatDoorZd22
import Derived.Test.YtgkdmgndebifiaaGreatDoorZd17
set_option linter.unusedSimpArgs false
set_option linter.unusedVariables false
set_option maxRecDepth 10000
namespace Go.Proofs.YtgkdmgndebifiaaGreatDoor
open Go.RowKit
variable {w w':World} {g len:Nat} {T:List Tk} {wd:Int} {st:PS}
set_option maxHeartbeats 8000000 in
theorem stmt_set (ex bl ch:Rdr) (hge:GoodR ex) (hex:∀ s:PS,s.ts.length < st.ts.length → RIs g len T wd 1 ex s) (h0:st.e = 0) (hset:st.isSet = true) (h:Rp w g len T wd st) :
  Calls Tryz.prog 51 #[.pointer (some ⟨g,0,none⟩)] w (RNode w g len T wd (stmP len ex bl ch st)):=by
 have hg:=h.lt
 have hset2:=hset
 unfold PS.isSet at hset2
 rw [Bool.and_eq_true] at hset2
 have hk:(hdT st.ts 0).k = 1:=by simpa using hset2.1
 have hyy:=hset2.2
 have hne:st.ts ≠ []:=fun e => by rw [hd_nil e] at hk;exact absurd hk (by decide)
 have w_if:st.isW ⟨#[105,102]⟩ = false:=noW (by rw [hk];decide) _
 have w_while:st.isW ⟨#[119,104,105,108,101]⟩ = false:=noW (by rw [hk];decide) _
 have w_let:st.isW ⟨#[108,101,116]⟩ = false:=noW (by rw [hk];decide) _
 have w_break:st.isW ⟨#[98,114,101,97,107]⟩ = false:=noW (by rw [hk];decide) _
 have w_continue:st.isW ⟨#[99,111,110,116,105,110,117,101]⟩ = false:=noW (by rw [hk];decide) _
 have w_return:st.isW ⟨#[114,101,116,117,114,110]⟩ = false:=noW (by rw [hk];decide) _
 have w_print:st.isW ⟨#[112,114,105,110,116]⟩ = false:=noW (by rw [hk];decide) _
 obtain ⟨sq,hsq⟩:∃ sq,sq = (st.name len).2.sign len ⟨#[61]⟩:=⟨_,rfl⟩
 have e1:stmP len ex bl ch st = (⟨2,0,(st.name len).1,0,[(ex sq).1]⟩,(ex sq).2.sign len ⟨#[59]⟩):=by
  unfold stmP
  rw [w_let,hset,hsq]
  rfl
 rw [e1]
 have hnm:(st.name len).2 = st.next:=by unfold PS.name;rw [if_pos hk]
 have hn1:st.next.ts.length < st.ts.length:=next_lt_of hne
 have hn3:=psign_le (st.name len).2 len ⟨#[61]⟩
 have H:=hide h
 have HIf:=hide (fun (W:World) (x:Rp W g len T wd st) => is_no x h0 ⟨#[105,102]⟩ (by decide +kernel) w_if)
 have HT_while:=hide (fun (W:World) (x:Rp W g len T wd st) => take_no x ⟨#[119,104,105,108,101]⟩ (by decide +kernel) w_while)
 have HT_let:=hide (fun (W:World) (x:Rp W g len T wd st) => take_no x ⟨#[108,101,116]⟩ (by decide +kernel) w_let)
 have HT_break:=hide (fun (W:World) (x:Rp W g len T wd st) => take_no x ⟨#[98,114,101,97,107]⟩ (by decide +kernel) w_break)
 have HT_continue:=hide (fun (W:World) (x:Rp W g len T wd st) => take_no x ⟨#[99,111,110,116,105,110,117,101]⟩ (by decide +kernel) w_continue)
 have HT_return:=hide (fun (W:World) (x:Rp W g len T wd st) => take_no x ⟨#[114,101,116,117,114,110]⟩ (by decide +kernel) w_return)
 have HT_print:=hide (fun (W:World) (x:Rp W g len T wd st) => take_no x ⟨#[112,114,105,110,116]⟩ (by decide +kernel) w_print)
 have HNm:=hide (fun (W:World) (x:Rp W g len T wd st) => name_r x)
 have HEq:Hd (∀ W,Rp W g len T wd (st.name len).2 → Calls Tryz.prog 31 #[.pointer (some ⟨g,0,none⟩),.string ⟨#[61]⟩] W (RAns W g len T wd (.tuple #[]) sq)):=fun W x => by rw [hsq];exact want_s x ⟨#[61]⟩ (by decide +kernel)
 have HEx:=hide (hex sq (by rw [hsq];rw [hnm] at hn3 ⊢;omega))
 unfold RIs at HEx
 have k2':=name_kp h.nv len
 have k3:=psign_kp (k2'.nv h.nv) len ⟨#[61]⟩
 rw [← hsq] at k3
 have nq:=k3.nv (k2'.nv h.nv)
 have HKS:=hide (psign_kp ((hge sq nq).nv nq) len ⟨#[59]⟩)
 have HG:=hide (fun (W:World) (x:Rp W g len T wd (ex sq).2) => want_s x ⟨#[59]⟩ (by decide +kernel))
 clear h e1 hex hge nq k2' k3 hsq hn3 hn1 hnm hset hset2
 generalize (st.name len) = qn at *
 obtain ⟨qs,st2⟩:=qn
 have hwg:(w.heap.size == g) = false:=by simp;omega
 have hwg1:(w.heap.size + 1 == g) = false:=by simp;omega
 go_enter Tryz.func51,Tryz.ntmps51
 go_wp2_with (first
  | (have T9:=unhide H;go_at_call 49;refine Calls.mono (unhide HIf _ (NS.start T9).rs) ?_;rintro e w0 ⟨rfl,hw⟩;have N0:=hide ((NS.start T9).ext hw);clear hw T9 H)
  | (have T9:=unhide N0;go_at_call 33;refine Calls.mono (unhide HT_while _ T9.rs) ?_;rintro e w1 ⟨rfl,hs,hw⟩;have N1:=hide (T9.go hs hw);clear hw hs T9 N0)
  | (have T9:=unhide N1;go_at_call 33;refine Calls.mono (unhide HT_let _ T9.rs) ?_;rintro e w2 ⟨rfl,hs,hw⟩;have N2:=hide (T9.go hs hw);clear hw hs T9 N1)
  | (have T9:=unhide N2;go_at_call 33;refine Calls.mono (unhide HT_break _ T9.rs) ?_;rintro e w3 ⟨rfl,hs,hw⟩;have N3:=hide (T9.go hs hw);clear hw hs T9 N2)
  | (have T9:=unhide N3;go_at_call 33;refine Calls.mono (unhide HT_continue _ T9.rs) ?_;rintro e w4 ⟨rfl,hs,hw⟩;have N4:=hide (T9.go hs hw);clear hw hs T9 N3)
  | (have T9:=unhide N4;go_at_call 33;refine Calls.mono (unhide HT_return _ T9.rs) ?_;rintro e w5 ⟨rfl,hs,hw⟩;have N5:=hide (T9.go hs hw);clear hw hs T9 N4)
  | (have T9:=unhide N5;go_at_call 33;refine Calls.mono (unhide HT_print _ T9.rs) ?_;rintro e w6 ⟨rfl,hs,hw⟩;have N6:=hide (T9.go hs hw);clear hw hs T9 N5))
 have hnt:=(unhide N6).rs.tl
 rcases (unhide N6).rs.hd h0 with ⟨hn,_⟩ | ⟨b,off,cap,i,pl,x,r,hx,hi,hd,h1,hb,hcc,hcm,p0,p1,p2,p3,hV⟩
 ·exact absurd hn hne
 have hy3:hdT st.ts 1 = (T[i + 1]?).getD tkZ:=by
  unfold hdT
  rw [hx,← hd,List.getElem?_drop]
 have hi1:i + 1 < T.length:=by
  apply Nat.lt_of_not_le
  intro hle
  rw [hy3,List.getElem?_eq_none hle] at hyy
  cases hyy
 obtain ⟨b',off',cap',y,hsl,_,_,_,hy',q0,q1,q2,q3⟩:=hV.at (i + 1) hi1
 injection hsl with e1 _ _
 injection e1 with e1
 injection e1 with e1 e2 _
 subst e1 e2
 have hy2:(T[i + 1]?).getD tkZ = y:=hy'
 rw [hy3,hy2] at hyy
 unfold isT at hyy
 rw [Bool.and_eq_true] at hyy
 have hyk:(y.k == 6) = true:=hyy.1
 have hyt2:(y.t.toList == [61]) = true:=by simpa using hyy.2
 obtain ⟨c0,c1,c2,c3,c4,c5,c6,zf⟩:=rp_c h1
 have HW:Nonempty (RGw w6):=⟨⟨w6,Ext.refl _⟩⟩
 have HK:Hd (∀ W,Ext w6 W → Calls Tryz.prog 48 #[.pointer (some ⟨g,0,none⟩)] W fun e w' => e = .returned (.int .i64 1) ∧ Ext W w'):=fun W x => by
  have h9:=kind_r ((unhide N6).rs.ext x) h0
  rw [hk] at h9
  exact h9
 have k0:∀ z:RGw w6,z.w.cell? ⟨g,0,none⟩ = some (.slice (some ⟨b,off,none⟩) T.length cap):=fun z => z.h.cell c0
 have k1:∀ z:RGw w6,z.w.cell? ⟨g,1,none⟩ = some (.int .i64 (i:Int)):=fun z => z.h.cell c1
 have k3:∀ z:RGw w6,z.w.cell? ⟨b,off + (i + 1) * 4,none⟩ = some (.int .i64 y.k):=fun z => z.h.cell q0
 have k4:∀ z:RGw w6,z.w.cell? ⟨b,off + (i + 1) * 4 + 1,none⟩ = some (.string y.t):=fun z => z.h.cell q1
 clear h1 hx hV hy3 hd hy2 hy' hyy c2 c3 c4 c5 c6 zf p0 p1 p2 p3
 generalize T.length = N at *
 have hq3:(i:Int) + 1 < (N:Int):=by omega
 have hq2:decide ((i:Int) + 1 < (N:Int)) = true:=by simp;omega
 refine wp_region_rx (W:=w6) (by kernel_rfl) (by kernel_rfl) (Ext.refl _) ?_
 repeat (go_big_quiet_step (first
  | (go_at_call 48;exact Calls.rx_of _ _ (unhide HK _ (RGw.h _)))))
 refine wpQuiet_nil ?_
 rintro w7 ⟨n7,hn7⟩
 have hx7:Ext w6 w7:=hn7 ▸ n7.h
 have N7:=hide ((unhide N6).ext hx7)
 clear hn7 n7 hx7 HW HK N6
 clear k0 k1 k3 k4 q0 q1 q2 q3 c0 c1
 go_wp2_with (first
  | (have T9:=unhide N7;go_at_call 32;refine Calls.mono (unhide HNm _ T9.rs) ?_;rintro e w8 ⟨rfl,hs,hw⟩;have N8:=hide (T9.go hs hw);have N9:=hide ((unhide N8).set 2 qs);have d0:=rowC (unhide N8).r3 0 rfl;have d1:=rowC (unhide N8).r3 1 rfl;have d2:=rowC (unhide N8).r3 2 rfl;have d3:=rowC (unhide N8).r3 3 rfl;have d4:=rowC (unhide N8).r3 4 rfl;have dz:=rowF (unhide N8).r3;have hlt3:=(unhide N8).lt;clear hw hs T9 N7)
  | (have T9:=unhide N9;go_at_call 31;refine Calls.mono (unhide HEq _ T9.rs) ?_;rintro e w10 ⟨rfl,hs,hw⟩;have N10:=hide (T9.go hs hw);clear d0 d1 d2 d3 d4 dz;clear hw hs T9 N9)
  | (have T9:=unhide N10;go_at_call 64;refine Calls.mono (unhide HEx _ T9.rs) ?_;rintro e w11 ⟨v,p5,rfl,hr,hp,hs,hw⟩;obtain ⟨k2,o2,s2,n2,l2⟩:=p5;rw [RepN] at hr;obtain ⟨a2,cap2,rfl,hcap2,hl3⟩:=hr;have N11:=hide (T9.go hs hw);have N12:=hide (T9.row (k:=k2) (o:=o2) (n2:=n2) (s:=s2) hs hw hl3 hcap2);have hlt11:=(unhide N11).lt;have P5:=hide hp;have d0:=rowC (unhide N11).r3 0 rfl;have d1:=rowC (unhide N11).r3 1 rfl;have d2:=rowC (unhide N11).r3 2 rfl;have d3:=rowC (unhide N11).r3 3 rfl;have d4:=rowC (unhide N11).r3 4 rfl;have dz:=rowF (unhide N11).r3;clear hw hs hl3 hp T9 N10)
  | (have T9:=unhide N12;go_at_call 31;refine Calls.mono (unhide HG _ T9.rs) ?_;rintro e w13 ⟨rfl,hs,hw⟩;have N13:=hide (T9.go hs hw);have r0:=rowC (unhide N13).r2 0 rfl;have r1:=rowC (unhide N13).r2 1 rfl;have r2:=rowC (unhide N13).r2 2 rfl;have r3:=rowC (unhide N13).r2 3 rfl;have r4:=rowC (unhide N13).r2 4 rfl;have rz:=rowF (unhide N13).r2;have q0:=rowC (unhide N13).r3 0 rfl;have q1:=rowC (unhide N13).r3 1 rfl;have q2:=rowC (unhide N13).r3 2 rfl;have q3:=rowC (unhide N13).r3 3 rfl;have q4:=rowC (unhide N13).r3 4 rfl;have qz:=rowF (unhide N13).r3;clear hw hs T9 N12))
 exact bodyPost_ret (v:=nodV 2 0 qs 0 (.slice (some ⟨w11.heap.size,0,none⟩) 1 1)) (res_nodR Tryz.results51 _ _ w.heap.size _ _ _ _ _ rfl (unhide N13).end) rfl ((unhide N13).fin (fun e => by rw [unhide P5 ((unhide HKS).ok e).1]))
end Go.Proofs.YtgkdmgndebifiaaGreatDoor
namespace Go.Proofs.YtgkdmgndebifiaaGreatDoor
open Go.RowKit
variable {w w':World} {g len:Nat} {T:List Tk} {wd:Int} {st:PS}
set_option maxHeartbeats 8000000 in
theorem stmt_do (ex bl ch:Rdr) (hge:GoodR ex) (hex:RIs g len T wd 1 ex st) (h0:st.e = 0) (hset:st.isSet = false) (w_if:st.isW ⟨#[105,102]⟩ = false) (w_while:st.isW ⟨#[119,104,105,108,101]⟩ = false) (w_let:st.isW ⟨#[108,101,116]⟩ = false) (w_break:st.isW ⟨#[98,114,101,97,107]⟩ = false) (w_continue:st.isW ⟨#[99,111,110,116,105,110,117,101]⟩ = false) (w_return:st.isW ⟨#[114,101,116,117,114,110]⟩ = false) (w_print:st.isW ⟨#[112,114,105,110,116]⟩ = false) (h:Rp w g len T wd st) :
  Calls Tryz.prog 51 #[.pointer (some ⟨g,0,none⟩)] w (RNode w g len T wd (stmP len ex bl ch st)):=by
 have hg:=h.lt
 have e1:stmP len ex bl ch st = (⟨9,0,emptyB,0,[(ex st).1]⟩,(ex st).2.sign len ⟨#[59]⟩):=by
  unfold stmP
  rw [w_let,hset,w_if,w_while,w_break,w_continue,w_return,w_print]
  rfl
 rw [e1]
 have H:=hide h
 have HIf:=hide (fun (W:World) (x:Rp W g len T wd st) => is_no x h0 ⟨#[105,102]⟩ (by decide +kernel) w_if)
 have HT_while:=hide (fun (W:World) (x:Rp W g len T wd st) => take_no x ⟨#[119,104,105,108,101]⟩ (by decide +kernel) w_while)
 have HT_let:=hide (fun (W:World) (x:Rp W g len T wd st) => take_no x ⟨#[108,101,116]⟩ (by decide +kernel) w_let)
 have HT_break:=hide (fun (W:World) (x:Rp W g len T wd st) => take_no x ⟨#[98,114,101,97,107]⟩ (by decide +kernel) w_break)
 have HT_continue:=hide (fun (W:World) (x:Rp W g len T wd st) => take_no x ⟨#[99,111,110,116,105,110,117,101]⟩ (by decide +kernel) w_continue)
 have HT_return:=hide (fun (W:World) (x:Rp W g len T wd st) => take_no x ⟨#[114,101,116,117,114,110]⟩ (by decide +kernel) w_return)
 have HT_print:=hide (fun (W:World) (x:Rp W g len T wd st) => take_no x ⟨#[112,114,105,110,116]⟩ (by decide +kernel) w_print)
 have HEx:=hide hex
 unfold RIs at HEx
 have HKS:=hide (psign_kp ((hge st h.nv).nv h.nv) len ⟨#[59]⟩)
 have HG:=hide (fun (W:World) (x:Rp W g len T wd (ex st).2) => want_s x ⟨#[59]⟩ (by decide +kernel))
 clear h e1 hex hge
 have hwg:(w.heap.size == g) = false:=by simp;omega
 have hwg1:(w.heap.size + 1 == g) = false:=by simp;omega
 go_enter Tryz.func51,Tryz.ntmps51
 go_wp2_with (first
  | (have T9:=unhide H;go_at_call 49;refine Calls.mono (unhide HIf _ (NS.start T9).rs) ?_;rintro e w0 ⟨rfl,hw⟩;have N0:=hide ((NS.start T9).ext hw);clear hw T9 H)
  | (have T9:=unhide N0;go_at_call 33;refine Calls.mono (unhide HT_while _ T9.rs) ?_;rintro e w1 ⟨rfl,hs,hw⟩;have N1:=hide (T9.go hs hw);clear hw hs T9 N0)
  | (have T9:=unhide N1;go_at_call 33;refine Calls.mono (unhide HT_let _ T9.rs) ?_;rintro e w2 ⟨rfl,hs,hw⟩;have N2:=hide (T9.go hs hw);clear hw hs T9 N1)
  | (have T9:=unhide N2;go_at_call 33;refine Calls.mono (unhide HT_break _ T9.rs) ?_;rintro e w3 ⟨rfl,hs,hw⟩;have N3:=hide (T9.go hs hw);clear hw hs T9 N2)
  | (have T9:=unhide N3;go_at_call 33;refine Calls.mono (unhide HT_continue _ T9.rs) ?_;rintro e w4 ⟨rfl,hs,hw⟩;have N4:=hide (T9.go hs hw);clear hw hs T9 N3)
  | (have T9:=unhide N4;go_at_call 33;refine Calls.mono (unhide HT_return _ T9.rs) ?_;rintro e w5 ⟨rfl,hs,hw⟩;have N5:=hide (T9.go hs hw);clear hw hs T9 N4)
  | (have T9:=unhide N5;go_at_call 33;refine Calls.mono (unhide HT_print _ T9.rs) ?_;rintro e w6 ⟨rfl,hs,hw⟩;have N6:=hide (T9.go hs hw);clear hw hs T9 N5))
 by_cases hk:(hdT st.ts 0).k = 1
 case neg =>
  have hkb:((hdT st.ts 0).k == 1) = false:=by simpa using hk
  have HW:Nonempty (RGw w6):=⟨⟨w6,Ext.refl _⟩⟩
  have HK:Hd (∀ W,Ext w6 W → Calls Tryz.prog 48 #[.pointer (some ⟨g,0,none⟩)] W fun e w' => e = .returned (.int .i64 (hdT st.ts 0).k) ∧ Ext W w'):=fun W x => kind_r ((unhide N6).rs.ext x) h0
  generalize (hdT st.ts 0).k = kd at *
  refine wp_region_rx (W:=w6) (by kernel_rfl) (by kernel_rfl) (Ext.refl _) ?_
  repeat (go_big_quiet_step (first
   | (go_at_call 48;exact Calls.rx_of _ _ (unhide HK _ (RGw.h _)))))
  refine wpQuiet_nil ?_
  rintro w7 ⟨n7,hn7⟩
  have hx7:Ext w6 w7:=hn7 ▸ n7.h
  have N7:=hide ((unhide N6).ext hx7)
  clear hn7 n7 hx7 HW HK N6
  go_wp2_with (first
   | (have T9:=unhide N7;go_at_call 64;refine Calls.mono (unhide HEx _ T9.rs) ?_;rintro e w8 ⟨v,p5,rfl,hr,hp,hs,hw⟩;obtain ⟨k2,o2,s2,n2,l2⟩:=p5;rw [RepN] at hr;obtain ⟨a2,cap2,rfl,hcap2,hl3⟩:=hr;have N8:=hide (T9.go hs hw);have N9:=hide (T9.lit (k:=k2) (o:=o2) (n2:=n2) (s:=s2) hs hw hl3 hcap2 9 emptyB);have hlt8:=(unhide N8).lt;have P5:=hide hp;have d0:=rowC (unhide N8).r3 0 rfl;have d1:=rowC (unhide N8).r3 1 rfl;have d2:=rowC (unhide N8).r3 2 rfl;have d3:=rowC (unhide N8).r3 3 rfl;have d4:=rowC (unhide N8).r3 4 rfl;have dz:=rowF (unhide N8).r3;clear hw hs hl3 hp T9 N7)
   | (have T9:=unhide N9;go_at_call 31;refine Calls.mono (unhide HG _ T9.rs) ?_;rintro e w10 ⟨rfl,hs,hw⟩;have N10:=hide (T9.go hs hw);have r0:=rowC (unhide N10).r2 0 rfl;have r1:=rowC (unhide N10).r2 1 rfl;have r2:=rowC (unhide N10).r2 2 rfl;have r3:=rowC (unhide N10).r2 3 rfl;have r4:=rowC (unhide N10).r2 4 rfl;have rz:=rowF (unhide N10).r2;have q0:=rowC (unhide N10).r3 0 rfl;have q1:=rowC (unhide N10).r3 1 rfl;have q2:=rowC (unhide N10).r3 2 rfl;have q3:=rowC (unhide N10).r3 3 rfl;have q4:=rowC (unhide N10).r3 4 rfl;have qz:=rowF (unhide N10).r3;clear hw hs T9 N9))
  exact bodyPost_ret (v:=nodV 9 0 emptyB 0 (.slice (some ⟨w8.heap.size,0,none⟩) 1 1)) (res_nodR Tryz.results51 _ _ w.heap.size _ _ _ _ _ rfl (unhide N10).end) rfl ((unhide N10).fin (fun e => by rw [unhide P5 ((unhide HKS).ok e).1]))
 have hnt:=(unhide N6).rs.tl
 rcases (unhide N6).rs.hd h0 with ⟨hn,_⟩ | ⟨b,off,cap,i,pl,x,r,hx,hi,hd,h1,hb,hcc,hcm,p0,p1,p2,p3,hV⟩
 ·rw [hd_nil hn] at hk;exact absurd hk (by decide)
 have hy3:hdT st.ts 1 = (T[i + 1]?).getD tkZ:=by
  unfold hdT
  rw [hx,← hd,List.getElem?_drop]
 have hyy:isT (hdT st.ts 1) 6 ⟨#[61]⟩ = false:=by
  unfold PS.isSet at hset
  rw [hk] at hset
  exact hset
 rw [hy3] at hyy
 obtain ⟨c0,c1,c2,c3,c4,c5,c6,zf⟩:=rp_c h1
 by_cases hi1:i + 1 < T.length
 ·obtain ⟨b',off',cap',y,hsl,_,_,_,hy',q0,q1,q2,q3⟩:=hV.at (i + 1) hi1
  injection hsl with e1 _ _
  injection e1 with e1
  injection e1 with e1 e2 _
  subst e1 e2
  have hy2:(T[i + 1]?).getD tkZ = y:=hy'
  rw [hy2] at hyy
  unfold isT at hyy
  cases hyk:(y.k == 6)
  ·have HW:Nonempty (RGw w6):=⟨⟨w6,Ext.refl _⟩⟩
   have HK:Hd (∀ W,Ext w6 W → Calls Tryz.prog 48 #[.pointer (some ⟨g,0,none⟩)] W fun e w' => e = .returned (.int .i64 1) ∧ Ext W w'):=fun W x => by
    have h9:=kind_r ((unhide N6).rs.ext x) h0
    rw [hk] at h9
    exact h9
   have k0:∀ z:RGw w6,z.w.cell? ⟨g,0,none⟩ = some (.slice (some ⟨b,off,none⟩) T.length cap):=fun z => z.h.cell c0
   have k1:∀ z:RGw w6,z.w.cell? ⟨g,1,none⟩ = some (.int .i64 (i:Int)):=fun z => z.h.cell c1
   have k3:∀ z:RGw w6,z.w.cell? ⟨b,off + (i + 1) * 4,none⟩ = some (.int .i64 y.k):=fun z => z.h.cell q0
   have k4:∀ z:RGw w6,z.w.cell? ⟨b,off + (i + 1) * 4 + 1,none⟩ = some (.string y.t):=fun z => z.h.cell q1
   clear h1 hx hV hy3 hy2 hy' hyy hd c2 c3 c4 c5 c6 zf p0 p1 p2 p3
   generalize T.length = N at *
   have hq3:(i:Int) + 1 < (N:Int):=by omega
   have hq2:decide ((i:Int) + 1 < (N:Int)) = true:=by simp;omega
   refine wp_region_rx (W:=w6) (by kernel_rfl) (by kernel_rfl) (Ext.refl _) ?_
   repeat (go_big_quiet_step (first
    | (go_at_call 48;exact Calls.rx_of _ _ (unhide HK _ (RGw.h _)))))
   refine wpQuiet_nil ?_
   rintro w7 ⟨n7,hn7⟩
   have hx7:Ext w6 w7:=hn7 ▸ n7.h
   have N7:=hide ((unhide N6).ext hx7)
   clear hn7 n7 hx7 HW HK N6
   clear k0 k1 k3 k4 q0 q1 q2 q3 c0 c1
   go_wp2_with (first
    | (have T9:=unhide N7;go_at_call 64;refine Calls.mono (unhide HEx _ T9.rs) ?_;rintro e w8 ⟨v,p5,rfl,hr,hp,hs,hw⟩;obtain ⟨k2,o2,s2,n2,l2⟩:=p5;rw [RepN] at hr;obtain ⟨a2,cap2,rfl,hcap2,hl3⟩:=hr;have N8:=hide (T9.go hs hw);have N9:=hide (T9.lit (k:=k2) (o:=o2) (n2:=n2) (s:=s2) hs hw hl3 hcap2 9 emptyB);have hlt8:=(unhide N8).lt;have P5:=hide hp;have d0:=rowC (unhide N8).r3 0 rfl;have d1:=rowC (unhide N8).r3 1 rfl;have d2:=rowC (unhide N8).r3 2 rfl;have d3:=rowC (unhide N8).r3 3 rfl;have d4:=rowC (unhide N8).r3 4 rfl;have dz:=rowF (unhide N8).r3;clear hw hs hl3 hp T9 N7)
    | (have T9:=unhide N9;go_at_call 31;refine Calls.mono (unhide HG _ T9.rs) ?_;rintro e w10 ⟨rfl,hs,hw⟩;have N10:=hide (T9.go hs hw);have r0:=rowC (unhide N10).r2 0 rfl;have r1:=rowC (unhide N10).r2 1 rfl;have r2:=rowC (unhide N10).r2 2 rfl;have r3:=rowC (unhide N10).r2 3 rfl;have r4:=rowC (unhide N10).r2 4 rfl;have rz:=rowF (unhide N10).r2;have q0:=rowC (unhide N10).r3 0 rfl;have q1:=rowC (unhide N10).r3 1 rfl;have q2:=rowC (unhide N10).r3 2 rfl;have q3:=rowC (unhide N10).r3 3 rfl;have q4:=rowC (unhide N10).r3 4 rfl;have qz:=rowF (unhide N10).r3;clear hw hs T9 N9))
   exact bodyPost_ret (v:=nodV 9 0 emptyB 0 (.slice (some ⟨w8.heap.size,0,none⟩) 1 1)) (res_nodR Tryz.results51 _ _ w.heap.size _ _ _ _ _ rfl (unhide N10).end) rfl ((unhide N10).fin (fun e => by rw [unhide P5 ((unhide HKS).ok e).1]))
  ·have hyt2:(y.t.toList == [61]) = false:=by rw [hyk] at hyy;simpa using hyy
   have HW:Nonempty (RGw w6):=⟨⟨w6,Ext.refl _⟩⟩
   have HK:Hd (∀ W,Ext w6 W → Calls Tryz.prog 48 #[.pointer (some ⟨g,0,none⟩)] W fun e w' => e = .returned (.int .i64 1) ∧ Ext W w'):=fun W x => by
    have h9:=kind_r ((unhide N6).rs.ext x) h0
    rw [hk] at h9
    exact h9
   have k0:∀ z:RGw w6,z.w.cell? ⟨g,0,none⟩ = some (.slice (some ⟨b,off,none⟩) T.length cap):=fun z => z.h.cell c0
   have k1:∀ z:RGw w6,z.w.cell? ⟨g,1,none⟩ = some (.int .i64 (i:Int)):=fun z => z.h.cell c1
   have k3:∀ z:RGw w6,z.w.cell? ⟨b,off + (i + 1) * 4,none⟩ = some (.int .i64 y.k):=fun z => z.h.cell q0
   have k4:∀ z:RGw w6,z.w.cell? ⟨b,off + (i + 1) * 4 + 1,none⟩ = some (.string y.t):=fun z => z.h.cell q1
   clear h1 hx hV hy3 hy2 hy' hyy hd c2 c3 c4 c5 c6 zf p0 p1 p2 p3
   generalize T.length = N at *
   have hq3:(i:Int) + 1 < (N:Int):=by omega
   have hq2:decide ((i:Int) + 1 < (N:Int)) = true:=by simp;omega
   refine wp_region_rx (W:=w6) (by kernel_rfl) (by kernel_rfl) (Ext.refl _) ?_
   repeat (go_big_quiet_step (first
    | (go_at_call 48;exact Calls.rx_of _ _ (unhide HK _ (RGw.h _)))))
   refine wpQuiet_nil ?_
   rintro w7 ⟨n7,hn7⟩
   have hx7:Ext w6 w7:=hn7 ▸ n7.h
   have N7:=hide ((unhide N6).ext hx7)
   clear hn7 n7 hx7 HW HK N6
   clear k0 k1 k3 k4 q0 q1 q2 q3 c0 c1
   go_wp2_with (first
    | (have T9:=unhide N7;go_at_call 64;refine Calls.mono (unhide HEx _ T9.rs) ?_;rintro e w8 ⟨v,p5,rfl,hr,hp,hs,hw⟩;obtain ⟨k2,o2,s2,n2,l2⟩:=p5;rw [RepN] at hr;obtain ⟨a2,cap2,rfl,hcap2,hl3⟩:=hr;have N8:=hide (T9.go hs hw);have N9:=hide (T9.lit (k:=k2) (o:=o2) (n2:=n2) (s:=s2) hs hw hl3 hcap2 9 emptyB);have hlt8:=(unhide N8).lt;have P5:=hide hp;have d0:=rowC (unhide N8).r3 0 rfl;have d1:=rowC (unhide N8).r3 1 rfl;have d2:=rowC (unhide N8).r3 2 rfl;have d3:=rowC (unhide N8).r3 3 rfl;have d4:=rowC (unhide N8).r3 4 rfl;have dz:=rowF (unhide N8).r3;clear hw hs hl3 hp T9 N7)
    | (have T9:=unhide N9;go_at_call 31;refine Calls.mono (unhide HG _ T9.rs) ?_;rintro e w10 ⟨rfl,hs,hw⟩;have N10:=hide (T9.go hs hw);have r0:=rowC (unhide N10).r2 0 rfl;have r1:=rowC (unhide N10).r2 1 rfl;have r2:=rowC (unhide N10).r2 2 rfl;have r3:=rowC (unhide N10).r2 3 rfl;have r4:=rowC (unhide N10).r2 4 rfl;have rz:=rowF (unhide N10).r2;have q0:=rowC (unhide N10).r3 0 rfl;have q1:=rowC (unhide N10).r3 1 rfl;have q2:=rowC (unhide N10).r3 2 rfl;have q3:=rowC (unhide N10).r3 3 rfl;have q4:=rowC (unhide N10).r3 4 rfl;have qz:=rowF (unhide N10).r3;clear hw hs T9 N9))
   exact bodyPost_ret (v:=nodV 9 0 emptyB 0 (.slice (some ⟨w8.heap.size,0,none⟩) 1 1)) (res_nodR Tryz.results51 _ _ w.heap.size _ _ _ _ _ rfl (unhide N10).end) rfl ((unhide N10).fin (fun e => by rw [unhide P5 ((unhide HKS).ok e).1]))
 ·have HW:Nonempty (RGw w6):=⟨⟨w6,Ext.refl _⟩⟩
  have HK:Hd (∀ W,Ext w6 W → Calls Tryz.prog 48 #[.pointer (some ⟨g,0,none⟩)] W fun e w' => e = .returned (.int .i64 1) ∧ Ext W w'):=fun W x => by
   have h9:=kind_r ((unhide N6).rs.ext x) h0
   rw [hk] at h9
   exact h9
  have k0:∀ z:RGw w6,z.w.cell? ⟨g,0,none⟩ = some (.slice (some ⟨b,off,none⟩) T.length cap):=fun z => z.h.cell c0
  have k1:∀ z:RGw w6,z.w.cell? ⟨g,1,none⟩ = some (.int .i64 (i:Int)):=fun z => z.h.cell c1
  clear h1 hx hV hy3 hyy hd c2 c3 c4 c5 c6 zf p0 p1 p2 p3
  generalize T.length = N at *
  have hq1:¬ ((i:Int) + 1 < (N:Int)):=by omega
  have hq2:decide ((i:Int) + 1 < (N:Int)) = false:=by simp;omega
  refine wp_region_rx (W:=w6) (by kernel_rfl) (by kernel_rfl) (Ext.refl _) ?_
  repeat (go_big_quiet_step (first
   | (go_at_call 48;exact Calls.rx_of _ _ (unhide HK _ (RGw.h _)))))
  refine wpQuiet_nil ?_
  rintro w7 ⟨n7,hn7⟩
  have hx7:Ext w6 w7:=hn7 ▸ n7.h
  have N7:=hide ((unhide N6).ext hx7)
  clear hn7 n7 hx7 HW HK N6
  clear k0 k1 c0 c1
  go_wp2_with (first
   | (have T9:=unhide N7;go_at_call 64;refine Calls.mono (unhide HEx _ T9.rs) ?_;rintro e w8 ⟨v,p5,rfl,hr,hp,hs,hw⟩;obtain ⟨k2,o2,s2,n2,l2⟩:=p5;rw [RepN] at hr;obtain ⟨a2,cap2,rfl,hcap2,hl3⟩:=hr;have N8:=hide (T9.go hs hw);have N9:=hide (T9.lit (k:=k2) (o:=o2) (n2:=n2) (s:=s2) hs hw hl3 hcap2 9 emptyB);have hlt8:=(unhide N8).lt;have P5:=hide hp;have d0:=rowC (unhide N8).r3 0 rfl;have d1:=rowC (unhide N8).r3 1 rfl;have d2:=rowC (unhide N8).r3 2 rfl;have d3:=rowC (unhide N8).r3 3 rfl;have d4:=rowC (unhide N8).r3 4 rfl;have dz:=rowF (unhide N8).r3;clear hw hs hl3 hp T9 N7)
   | (have T9:=unhide N9;go_at_call 31;refine Calls.mono (unhide HG _ T9.rs) ?_;rintro e w10 ⟨rfl,hs,hw⟩;have N10:=hide (T9.go hs hw);have r0:=rowC (unhide N10).r2 0 rfl;have r1:=rowC (unhide N10).r2 1 rfl;have r2:=rowC (unhide N10).r2 2 rfl;have r3:=rowC (unhide N10).r2 3 rfl;have r4:=rowC (unhide N10).r2 4 rfl;have rz:=rowF (unhide N10).r2;have q0:=rowC (unhide N10).r3 0 rfl;have q1:=rowC (unhide N10).r3 1 rfl;have q2:=rowC (unhide N10).r3 2 rfl;have q3:=rowC (unhide N10).r3 3 rfl;have q4:=rowC (unhide N10).r3 4 rfl;have qz:=rowF (unhide N10).r3;clear hw hs T9 N9))
  exact bodyPost_ret (v:=nodV 9 0 emptyB 0 (.slice (some ⟨w8.heap.size,0,none⟩) 1 1)) (res_nodR Tryz.results51 _ _ w.heap.size _ _ _ _ _ rfl (unhide N10).end) rfl ((unhide N10).fin (fun e => by rw [unhide P5 ((unhide HKS).ok e).1]))
end Go.Proofs.YtgkdmgndebifiaaGreatDoor
namespace Go.Proofs.YtgkdmgndebifiaaGreatDoor
open Go.RowKit
variable {w w':World} {g len:Nat} {T:List Tk} {wd:Int} {st:PS}
set_option maxHeartbeats 4000000 in
theorem stmt_if (ex bl ch:Rdr) (hbr:RBrn g len T wd ch st) (h0:st.e = 0) (hW:st.isW ⟨#[105,102]⟩ = true) (h:Rp w g len T wd st) :
  Calls Tryz.prog 51 #[.pointer (some ⟨g,0,none⟩)] w (RNode w g len T wd (stmP len ex bl ch st)):=by
 have hg:=h.lt
 have w_while:st.isW ⟨#[119,104,105,108,101]⟩ = false:=onlyW hW (by decide +kernel)
 have w_let:st.isW ⟨#[108,101,116]⟩ = false:=onlyW hW (by decide +kernel)
 have w_break:st.isW ⟨#[98,114,101,97,107]⟩ = false:=onlyW hW (by decide +kernel)
 have w_continue:st.isW ⟨#[99,111,110,116,105,110,117,101]⟩ = false:=onlyW hW (by decide +kernel)
 have w_return:st.isW ⟨#[114,101,116,117,114,110]⟩ = false:=onlyW hW (by decide +kernel)
 have w_print:st.isW ⟨#[112,114,105,110,116]⟩ = false:=onlyW hW (by decide +kernel)
 have e1:stmP len ex bl ch st = ch st.next:=by
  unfold stmP
  rw [w_let,notSet hW,hW]
  rfl
 rw [e1]
 have H:=hide h
 have HIf:Hd (∀ W,Rp W g len T wd st → Calls Tryz.prog 49 #[.pointer (some ⟨g,0,none⟩),.string ⟨#[105,102]⟩] W fun e w' => e = .returned (.bool true) ∧ Ext W w'):=fun W x => by
  have:=is_r x h0 ⟨#[105,102]⟩
  rw [isA_W x h0 (by decide +kernel),hW] at this
  exact this
 have HBr:Hd (∀ W,Rp W g len T wd st → Calls Tryz.prog 63 #[.pointer (some ⟨g,0,none⟩)] W (RNode W g len T wd (ch st.next))):=fun W x => hbr W x h0 hW
 clear h e1 hbr
 have hwg:(w.heap.size == g) = false:=by simp;omega
 have hwg1:(w.heap.size + 1 == g) = false:=by simp;omega
 go_enter Tryz.func51,Tryz.ntmps51
 go_wp2_with (first
  | (have T9:=unhide H;go_at_call 49;refine Calls.mono (unhide HIf _ (NS.start T9).rs) ?_;rintro e w0 ⟨rfl,hw⟩;have N0:=hide ((NS.start T9).ext hw);clear hw T9 H)
  | (have T9:=unhide N0;go_at_call 63;refine Calls.mono (unhide HBr _ T9.rs) ?_;rintro e w1 ⟨v,p5,rfl,hr,hp,hs,hw⟩;obtain ⟨k2,o2,s2,n2,l2⟩:=p5;rw [RepN] at hr;obtain ⟨a2,cap2,rfl,hcap2,hl3⟩:=hr;have N1:=hide (T9.go hs hw);have P5:=hide hp;have L5:=hide hl3;have hlt1:=T9.lt;have r0:=rowC (unhide N1).r2 0 rfl;have r1:=rowC (unhide N1).r2 1 rfl;have r2:=rowC (unhide N1).r2 2 rfl;have r3:=rowC (unhide N1).r2 3 rfl;have r4:=rowC (unhide N1).r2 4 rfl;have rz:=rowF (unhide N1).r2;clear hw hs hl3 hp T9 N0))
 exact bodyPost_ret (v:=nodV k2 o2 s2 n2 (.slice a2 l2.length cap2)) (res_nodR Tryz.results51 _ _ w.heap.size _ _ _ _ _ rfl (set5_row (unhide N1).r2 _ _ _ _ _)) rfl (rnode_end hg (unhide N1).rs (unhide N1).gr hcap2 (RepNL.to (fun b hb => ⟨⟨by have:=hb.1;omega,hb.2⟩,rfl⟩) _ _ (unhide L5)) (unhide P5))
end Go.Proofs.YtgkdmgndebifiaaGreatDoor
namespace Go.Proofs.YtgkdmgndebifiaaGreatDoor
open Go.RowKit
variable {w w':World} {g len:Nat} {T:List Tk} {wd:Int} {st:PS}
set_option maxHeartbeats 8000000 in
theorem branch_none (ex bl ch bo:Rdr) (hge:GoodR ex) (hgb:GoodR bl) (hex:RIs g len T wd 1 ex st.next) (hbl:RBlk g len T wd bl (ex st.next).2) (hE:(bl (ex st.next).2).2.isW ⟨#[101,108,115,101]⟩ = false) (h0:st.e = 0) (hW:st.isW ⟨#[105,102]⟩ = true) (h:Rp w g len T wd st) :
  Calls Tryz.prog 63 #[.pointer (some ⟨g,0,none⟩)] w (RNode w g len T wd (choP ex bl (othP ch bo) st.next)):=by
 have hg:=h.lt
 have n1:=(next_kp h.nv).nv h.nv
 have n2:=(hge st.next n1).nv n1
 have HKS:=hgb (ex st.next).2 n2
 have n3:=HKS.nv n2
 have HWt:=hide (fun (W:World) (x:Rp W g len T wd st) => want_w x ⟨#[105,102]⟩ (by decide +kernel))
 have ew:st.word len ⟨#[105,102]⟩ = st.next:=by unfold PS.word;rw [hW];rfl
 rw [ew] at HWt
 have H:=hide h
 have HEx:=hide hex
 unfold RIs at HEx
 have HBl:=hide hbl
 unfold RBlk at HBl
 have HTe:=hide (fun (W:World) (x:Rp W g len T wd (bl (ex st.next).2).2) => take_no x ⟨#[101,108,115,101]⟩ (by decide +kernel) hE)
 obtain ⟨RS,hRS⟩:∃ RS,RS = choP ex bl (othP ch bo) st.next:=⟨_,rfl⟩
 rw [← hRS]
 have hRS:RS = (⟨3,0,emptyB,0,[(ex st.next).1,(bl (ex st.next).2).1]⟩,(bl (ex st.next).2).2):=by rw [hRS];unfold choP;rw [hE];rfl
 rw [hRS]
 clear h hex hge hgb hbl n1 n2 ew hRS
 generalize ex st.next = q1 at *
 obtain ⟨qn,u1⟩:=q1
 simp only at *
 generalize bl u1 = q2 at *
 obtain ⟨qm,u2⟩:=q2
 simp only at *
 have HKS:=hide HKS
 obtain ⟨i0,hi,hz0,hz1,hz2⟩:=info_parts infoN
 have HIN:=hide hi
 have Z0:=hide hz0
 have Z1:=hide hz1
 have Z2:=hide hz2
 clear hi hz0 hz1 hz2
 have hwg:(w.heap.size == g) = false:=by simp;omega
 go_enter Tryz.func63,Tryz.ntmps63
 go_wp2_with (first
  | (have T9:=unhide H;go_at_call 31;refine Calls.mono (unhide HWt _ (T9.ext (Ext.alloc _ _))) ?_;rintro e w1 ⟨rfl,hs,hw⟩;have S1:=hide hs;have G1:=hide ((Gr.of (Ext.alloc w _)).trans hw);have R1:=hide (hw.row (Go.heap_alloc_new w _) (by omega));clear hw hs T9 H)
  | (have T9:=unhide S1;go_at_call 64;refine Calls.mono (unhide HEx _ T9) ?_;rintro e w2 ⟨v,p5,rfl,hr,hp,hs,hw⟩;obtain ⟨k2,o2,s2,n2,l2⟩:=p5;rw [RepN] at hr;obtain ⟨a2,cap2,rfl,hcap2,hl3⟩:=hr;have N3:=hide (NS.make (k:=k2) (o:=o2) (n2:=n2) (s:=s2) hg (unhide R1) (unhide G1) hs hw hl3 hcap2 3 emptyB);have P5:=hide hp;clear hw hs hl3 hp T9 S1 R1 G1))
 refine gen_world (F:=fun W => Code.wp _ _ _ _ W) ?_
 intro W9 hW9
 have N40:NS g len T wd w W9 (w2.heap.size + 1) u1 3 emptyB [⟨k2,o2,s2,n2,l2⟩] 1 (some ⟨w2.heap.size,0,none⟩) 1:=by rw [hW9];exact unhide N3
 obtain ⟨nA,hnA,N4⟩:∃ m,m ≤ 1 ∧ NS g len T wd w W9 (w2.heap.size + 1) u1 3 emptyB [⟨k2,o2,s2,n2,l2⟩] m (some ⟨w2.heap.size,0,none⟩) 1:=⟨_,Nat.le_refl _,N40⟩
 have N4:=hide N4
 clear N40 hW9 N3
 obtain ⟨xsa,hxs⟩:=(unhide N4).own
 have HXSa:=hide hxs
 clear hxs
 have d0:W9.cell? ⟨(w2.heap.size + 1),0,none⟩ = some (.int .i64 3):=rowC (unhide N4).r3 0 rfl
 have d1:W9.cell? ⟨(w2.heap.size + 1),1,none⟩ = some (.int .i64 0):=rowC (unhide N4).r3 1 rfl
 have d2:W9.cell? ⟨(w2.heap.size + 1),2,none⟩ = some (.string emptyB):=rowC (unhide N4).r3 2 rfl
 have d3:W9.cell? ⟨(w2.heap.size + 1),3,none⟩ = some (.int .i64 0):=rowC (unhide N4).r3 3 rfl
 have d4:W9.cell? ⟨(w2.heap.size + 1),4,none⟩ = some (.slice (some ⟨w2.heap.size,0,none⟩) nA 1):=rowC (unhide N4).r3 4 rfl
 have dz:=rowF (unhide N4).r3
 have hlta:=(unhide N4).lt
 have hBBa:=(unhide N4).hB
 have hgga:=(unhide N4).hg
 have D0a:Hd (Gr g W9 W9.drew):=(Gr.refl _ _).drew
 have D1a:Hd (Rp W9.drew g len T wd u1):=(unhide N4).rs.ext (Ext.drew (Ext.refl _))
 have hne1:(w2.heap.size + 1 == g) = false:=by simp;omega
 have hne2:(w.heap.size == w2.heap.size + 1) = false:=by simp;omega
 have HBa:=hide (unhide HBl _ (unhide D1a))
 refine wp_nrm ?_
 first | skip;go_region_law (first
  | (refine step_call_one rfl 34 (.tmp 13) 52 rfl _ (by simp [Act.eval,Act.put]) (enterRBlk _ _) (Calls.mono (unhide HBa) ?_);rintro e w6a ⟨v,p6,rfl,hr,hp,hs,hw⟩;obtain ⟨k3a,o3a,s3a,n3a,l3a⟩:=p6;rw [RepN] at hr;obtain ⟨a3a,c3a,rfl,hcap3a,hl⟩:=hr;have X6a:=hide ((unhide D0a).trans hw);have RG:=hide ((unhide X6a).row (unhide N4).r3 (by omega));have d0:=rowC (unhide RG) 0 rfl;have d1:=rowC (unhide RG) 1 rfl;have d2:=rowC (unhide RG) 2 rfl;have d3:=rowC (unhide RG) 3 rfl;have d4:=rowC (unhide RG) 4 rfl;have dz:=rowF (unhide RG);have S6a:=hide hs;have P6a:=hide hp;have L6a:Hd (RepNL w6a (Fr W9.heap.size w6a.heap.size) l3a a3a):=hl;have hz6a:W9.heap.size ≤ w6a.heap.size:=hw.size;have hb6a:(w2.heap.size + 1) < w6a.heap.size:=(Array.getElem?_eq_some_iff.1 (unhide RG)).1;clear hw hs hl hp;refine ⟨_,rfl,?_⟩)
  | (refine step_append_where rfl (.tmp 12) (.tmp 15) 27 rfl (w.heap.size + 1) 29 i0 (nodV 0 0 emptyB 0 (.slice none 0 0)) 5 64 Tryz.underlying27 (unhide HIN) (unhide Z0) (unhide Z1) (unhide Z2) rfl (by decide) (some ⟨w2.heap.size,0,none⟩) nA 1 xsa (by simp [Act.eval,Act.put]) (unhide HXSa _ ((unhide X6a).alloc _)).1 ⟨w6a.heap.size,0,none⟩ 1 1 [.int .i64 k3a,.int .i64 o3a,.string s3a,.int .i64 n3a,.slice a3a l3a.length c3a] (by simp [Act.eval,Act.put]) (by decide) rfl (cells_new w6a _ _) (one_cells _ _ _ _ _ _ _) (by unfold maxLen;omega) (by omega) (by simp;omega) ?_;intro g2a cap7a w7a ho7 hg7 hw7;have RZ:=hide ((unhide N4).grown ((unhide X6a).alloc _) hg7);have z0:=rowC (unhide RZ) 0 rfl;have z1:=rowC (unhide RZ) 1 rfl;have z2:=rowC (unhide RZ) 2 rfl;have z3:=rowC (unhide RZ) 3 rfl;have z4:=rowC (unhide RZ) 4 rfl;have zz:=rowF (unhide RZ);have HO7a:=hide ho7;have HG7a:=hide hg7;have HW7a:=hide hw7;clear ho7 hg7 hw7)) | fail
 all_goals
  refine nrm_inB ?_
  have N5:=hide (NS.snocA (k:=k3a) (o:=o3a) (n2:=n3a) (s:=s3a) (unhide N4) (unhide X6a) (unhide S6a) hcap3a (unhide L6a) _ (unhide HXSa _ ((unhide X6a).alloc _)) (unhide HO7a) (unhide HG7a) (unhide HW7a))
  go_wp2_with (have T9:=unhide N5;go_at_call 33;refine Calls.mono (unhide HTe _ T9.rs) ?_;rintro e w8 ⟨rfl,hs,hw⟩;have N6:=hide (T9.go hs hw);have r0:=rowC (unhide N6).r2 0 rfl;have r1:=rowC (unhide N6).r2 1 rfl;have r2:=rowC (unhide N6).r2 2 rfl;have r3:=rowC (unhide N6).r2 3 rfl;have r4:=rowC (unhide N6).r2 4 rfl;have rz:=rowF (unhide N6).r2;have q0:=rowC (unhide N6).r3 0 rfl;have q1:=rowC (unhide N6).r3 1 rfl;have q2:=rowC (unhide N6).r3 2 rfl;have q3:=rowC (unhide N6).r3 3 rfl;have q4:=rowC (unhide N6).r3 4 rfl;have qz:=rowF (unhide N6).r3;clear hw hs T9 N5)
  exact bodyPost_ret (v:=nodV 3 0 emptyB 0 (.slice (some ⟨g2a,0,none⟩) (nA + 1) cap7a)) (res_nodR Tryz.results63 _ _ w.heap.size _ _ _ _ _ rfl (unhide N6).end) rfl ((unhide N6).fin (fun e => by rw [unhide P5 ((unhide HKS).ok e).1,unhide P6a e];rfl))
end Go.Proofs.YtgkdmgndebifiaaGreatDoor
