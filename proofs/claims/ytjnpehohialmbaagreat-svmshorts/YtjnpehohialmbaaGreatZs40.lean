/- The record of a run: With,tell,Tick,Out,Ended,Returned. -/
import Derived.Orders
import Derived.Scope
import Derived.Test.YtjnpehohialmbaaGreatZs39
set_option linter.unusedSimpArgs false
set_option linter.unusedVariables false
set_option maxRecDepth 10000
set_option maxHeartbeats 4000000
namespace Go.Proofs.YtjnpehohialmbaaGreat
open Go.RowKit
namespace V
variable {w w' w2:World} {h:SHd} {cs:List (Nat × Nat × Nat)} {ads:List Addr} {fu:Int} {ne:Nat} {evs:List Value} {d:SAd}
theorem infoEvt:(Tryz.prog.info? 40).map (fun i=>(i.zero,i.size,i.bytes))=some (some (.agg #[.int .i64 0,.int .i64 0,.int .i64 0,.int .i64 0,.complex .f64 0 0,.string ⟨#[]⟩,.slice none 0 0]),7,88):=by kernel_rfl
abbrev evC (k n:Int) (q:PV) (a:Option Addr) (cap:Nat):List Value:=[.int .i64 k,.int .i64 n,.int .i64 q.k,.int .i64 q.n,.complex .f64 q.re q.im,.string q.s,.slice a q.l.length cap]
theorem one_ev (k n:Int) (q:PV) (a:Option Addr) (cap:Nat):∀ u ∈ evC k n q a cap,u.oneCell' = true:=by
 intro u hu;simp at hu;rcases hu with rfl | rfl | rfl | rfl | rfl | rfl | rfl <;> rfl
def EvR:List SEv→List Value→Prop
 | [],xs=>xs = []
 | e :: r,xs => ∃ a cap rest,xs=evC e.k e.n e.v a cap++rest∧EvR r rest
theorem EvR.snoc {e:SEv} {a:Option Addr} {cap:Nat}:∀ {l:List SEv} {xs:List Value},EvR l xs→EvR (l++[e]) (xs++evC e.k e.n e.v a cap)
 | [],xs,hx=>⟨a,cap,[],by rw[hx];simp,rfl⟩
 | f :: r,xs,hx=>by
  obtain⟨a',cap',rest,rfl,hr⟩:=hx;exact⟨a',cap',rest++evC e.k e.n e.v a cap,by rw[List.append_assoc],hr.snoc⟩
theorem SB.recs (x:SB h w cs ads fu ne evs d):w.cell? ⟨h.r,0,none⟩=some (.int .i64 fu)∧w.cell? ⟨h.r,1,none⟩=some (.slice d.ea ne d.ec)∧∀ i,w.frozen? ⟨h.r,i,none⟩=false:=⟨zr x.rcd 0 rfl,zr x.rcd 1 rfl,fun i=>rowF x.rcd i⟩
theorem nrm_outS {Q:Exit→Act→World→Prop} {a:Act} {w:World} (h:Q .normal a w):Nrm Q .normal a w:=h
theorem with_v (n:Int):Calls Tryz.prog 11 #[.int .i64 n] w fun e w'=>e = .returned (.pointer (some ⟨w.heap.size,0,none⟩))∧w' = w.alloc (rcO (min n 100000) none 0 0):=by
 go_enter Tryz.func11,Tryz.ntmps11
 go_wp2_with fail
 go_ret;exact⟨rfl,rfl⟩
/-- Nothing is told without fuel. -/
theorem tell_no (x:SB h w cs ads fu ne evs d) (hf:fu < 1) (k n:Int) (c0 c1 c2 c3 c4:Value):Calls Tryz.prog 90 #[.pointer (some ⟨h.r,0,none⟩),.agg #[.int .i64 k,.int .i64 n,c0,c1,c2,c3,c4]] w fun e w'=>e = .returned (.int .i64 6)∧SB h w' cs ads fu ne evs d∧SvF5 h.L w w':=by
 have hr:=x.ltr;have hL:=x.ltL;have HX:=zh x;obtain⟨r0,r1,rf⟩:=x.recs;have hne:h.r≠w.heap.size:=by omega
 clear x
 go_enter Tryz.func90,Tryz.ntmps90
 go_wp2_with fail
 go_ret;exact⟨rfl,(zu HX).ext (Ext.alloc _ _),SvF5.of hL (Ext.alloc _ _)⟩
theorem tell_yes (x:SB h w cs ads fu ne evs d) (hf:1≤fu) (hf2:fu≤1000000) (hne:ne≤1000000) (k n:Int) (p:PV) (c0 c1 c2 c3 c4:Value) (hp:Rep w (NT h.L w) p (.agg #[c0,c1,c2,c3,c4])):Calls Tryz.prog 90 #[.pointer (some ⟨h.r,0,none⟩),.agg #[.int .i64 k,.int .i64 n,c0,c1,c2,c3,c4]] w fun e w'=>e = .returned (.int .i64 0)∧(∃ ea ec a cap,SB h w' cs ads (fu - 1) (ne+1) (evs++evC k n (cp p) a cap) { d with ea:=ea,ec:=ec })∧SvF5 h.L w w':=by
 have hr:=x.ltr;have hL:=x.ltL;have HX:=zh x;obtain⟨r0,r1,rf⟩:=x.recs;have hrn:h.r≠w.heap.size:=by omega
 obtain⟨wF,hwF⟩:∃ wF,wF=w.setCell ⟨h.r,0,none⟩ (.int .i64 (fu - 1)):=⟨_,rfl⟩;have xF:=x.putF (fu - 1);rw[← hwF] at xF;have sF:wF.heap.size=w.heap.size:=by rw[hwF];simp[World.setCell]
 obtain⟨W2,hW2⟩:∃ W2,W2=wF.alloc (.cells #[.int .i64 k,.int .i64 n,c0,c1,c2,c3,c4] 40):=⟨_,rfl⟩;have X2:Ext wF W2:=by rw[hW2];exact Ext.alloc _ _
 have b2:W2.heap[w.heap.size]? = some (.cells #[.int .i64 k,.int .i64 n,c0,c1,c2,c3,c4] 40 (0,0)):=by rw[hW2,← sF];exact Go.heap_alloc_new wF _
 have s2:W2.heap.size=w.heap.size+1:=by rw[hW2];simp[sF]
 have F2:SvF5 h.L w W2:=xF.2.trans (SvF5.of (by rw[sF];exact hL) X2);have HXF:=zh xF.1;have HX2:=zh X2;have HC:=zh (copy_any p _ W2 (Rep.to (fun b hb=>⟨(F2.nt b hb).1.1,(F2.nt b hb).2⟩) _ _ hp));have d2:=zr b2 2 rfl;have d3:=zr b2 3 rfl;have d4:=zr b2 4 rfl;have d5:=zr b2 5 rfl;have d6:=zr b2 6 rfl;have HWF:=zh hwF;have HW2:=zh hW2;have HB2:=zh b2;have HF2:=zh F2;have q1:¬ fu < 1:=by omega
 obtain⟨i0,hi,hz0,hz1,hz2⟩:=info_parts infoEvt;have HI:=zh hi;have Z0:=zh hz0;have Z1:=zh hz1;have Z2:=zh hz2;clear hi hz0 hz1 hz2 x xF hp X2 b2 F2 hW2 hwF;generalize cp p=q at *;obtain⟨qk,qn,qre,qim,qs,ql⟩:=q
 go_enter Tryz.func90,Tryz.ntmps90
 go_wp2_with (go_at_call 59;rw[← zu HWF,← zu HW2];refine Calls.mono (zu HC) ?_;rintro e w3 ⟨v3,rfl,hr3,hx3⟩;rw[Rep] at hr3;obtain⟨a3,cap3,rfl,hbd3,_⟩:=hr3;have X3:=zh hx3;have b3:=hx3.row (zu HB2);have f3:=fun i=>rowF b3 i;have e2:w3.cell? ⟨w.heap.size,2,none⟩=some c0:=zr b3 2 rfl;have e3:w3.cell? ⟨w.heap.size,3,none⟩=some c1:=zr b3 3 rfl;have e4:w3.cell? ⟨w.heap.size,4,none⟩=some c2:=zr b3 4 rfl;have e5:w3.cell? ⟨w.heap.size,5,none⟩=some c3:=zr b3 5 rfl;have e6:w3.cell? ⟨w.heap.size,6,none⟩=some c4:=zr b3 6 rfl;have HB3:=zh b3;clear hx3 b3 d2 d3 d4 d5 d6)
 obtain⟨W4,hW4⟩:∃ W4,W4=((((w3.setCell ⟨w.heap.size,2,none⟩ (.int .i64 qk)).setCell ⟨w.heap.size,3,none⟩ (.int .i64 qn)).setCell ⟨w.heap.size,4,none⟩ (.complex .f64 qre qim)).setCell ⟨w.heap.size,5,none⟩ (.string qs)).setCell ⟨w.heap.size,6,none⟩ (.slice a3 ql.length cap3):=⟨_,rfl⟩;rw[← hW4];have b4:W4.heap[w.heap.size]? = some (.cells #[.int .i64 k,.int .i64 n,.int .i64 qk,.int .i64 qn,.complex .f64 qre qim,.string qs,.slice a3 ql.length cap3] 40 (0,0)):=by
  rw[hW4];exact row_set (row_set (row_set (row_set (row_set (zu HB3) 2 _) 3 _) 4 _) 5 _) 6 _
 have s4:W4.heap.size=w3.heap.size:=by rw[hW4];simp[World.setCell]
 have s3:=(zu X3).size;have k4:∀ q,q < wF.heap.size→W4.heap[q]? = wF.heap[q]?:=fun q hq=>by
  have hq2:q≠w.heap.size:=by omega
  rw[hW4,Below.heap_setCell _ _ _ _ hq2,Below.heap_setCell _ _ _ _ hq2,Below.heap_setCell _ _ _ _ hq2,Below.heap_setCell _ _ _ _ hq2,Below.heap_setCell _ _ _ _ hq2,(zu X3).block q (by omega)];exact(zu HX2).block q hq
 have x4:=(zu HXF).keep (w':=W4) (by omega) k4;have F4:SvF5 h.L w W4:=by
  rw[hW4];exact(((((zu HF2).trans (SvF5.of (by omega) (zu X3))).setN (Nat.le_refl _) hL _ _).setN (Nat.le_refl _) hL _ _).setN (Nat.le_refl _) hL _ _).setN (Nat.le_refl _) hL _ _ |>.setN (Nat.le_refl _) hL _ _
 obtain⟨y0,y1,yf⟩:=x4.recs;have g0:W4.cell? ⟨w.heap.size,0,none⟩=some (.int .i64 k):=zr b4 0 rfl;have g1:W4.cell? ⟨w.heap.size,1,none⟩=some (.int .i64 n):=zr b4 1 rfl;have g2:W4.cell? ⟨w.heap.size,2,none⟩=some (.int .i64 qk):=zr b4 2 rfl;have g3:W4.cell? ⟨w.heap.size,3,none⟩=some (.int .i64 qn):=zr b4 3 rfl;have g4:W4.cell? ⟨w.heap.size,4,none⟩=some (.complex .f64 qre qim):=zr b4 4 rfl;have g5:W4.cell? ⟨w.heap.size,5,none⟩=some (.string qs):=zr b4 5 rfl;have g6:W4.cell? ⟨w.heap.size,6,none⟩=some (.slice a3 ql.length cap3):=zr b4 6 rfl;have y1a:=fun ob=>(Ext.alloc W4 ob).cell y1;have hr4:h.r≠W4.heap.size:=by omega
 have HX4:=zh x4;have HXA:=zh (fun ob=>x4.ext (Ext.drew (Ext.alloc W4 ob)));have HF4:=zh F4;have hlb:=x4.lb;clear x4 F4 k4 b4 hW4 e2 e3 e4 e5 e6 f3 r0 r1 rf;refine wp_nrm ?_
 go_region_law (first
  | (refine step_append_where rfl (.tmp 25) (.tmp 27) 28 rfl h.B 40 i0 (.agg #[.int .i64 0,.int .i64 0,.int .i64 0,.int .i64 0,.complex .f64 0 0,.string ⟨#[]⟩,.slice none 0 0]) 7 88 Tryz.underlying28 (zu HI) (zu Z0) (zu Z1) (zu Z2) rfl (by decide) d.ea ne d.ec evs (by simp[Act.eval,Act.put]) (zu HXA _).oe ⟨W4.heap.size,0,none⟩ 1 1 (evC k n ⟨qk,qn,qre,qim,qs,ql⟩ a3 cap3) (by simp[Act.eval,Act.put]) (by decide) rfl (cells_new W4 _ _) (one_ev _ _ _ _ _) (by unfold maxLen;omega) (by omega) (by simp;omega) ?_;intro g7 cap7 w7 ho7 hg7 hw7;obtain⟨P7,F7,K7⟩:=SB.pushE (zu HXA _) ho7 hg7;have row7:=K7.trans (zu HXA _).rcd;have y17:=zr row7 1 rfl;have yf7:=fun i=>rowF row7 i;have HP7:=zh P7;have HF7:=zh F7;clear P7 F7 K7 row7 ho7 hg7 hw7))
 all_goals
  refine nrm_outS ?_
  go_wp2_with fail
  go_ret;exact⟨rfl,⟨_,_,_,_,zu HP7⟩,(zu HF4).trans ((SvF5.of (by omega) (Ext.drew (Ext.alloc W4 _))).trans (zu HF7))⟩
def TellS (h:SHd) (w:World) (cs:List (Nat × Nat × Nat)) (ads:List Addr) (fu:Int) (l:List SEv) (e:SEv) (d:SAd) (en:Ending) (w':World):Prop :=
 SvF5 h.L w w'∧((fu < 1∧en = .returned (.int .i64 6)∧∃ xs,EvR l xs∧SB h w' cs ads fu l.length xs d) ∨
  (1≤fu∧en = .returned (.int .i64 0)∧∃ ea ec xs,EvR (l++[e]) xs∧SB h w' cs ads (fu - 1) (l++[e]).length xs { d with ea:=ea,ec:=ec }))
theorem cp_nil:cp nilP=nilP:=by first | rfl | kernel_rfl
theorem tick_v (l:List SEv) (x:SB h w cs ads fu l.length evs d) (hx:EvR l evs) (hf2:fu≤1000000) (hne:l.length≤1000000) (n:Int):Calls Tryz.prog 56 #[.pointer (some ⟨h.r,0,none⟩),.int .i64 n] w (TellS h w cs ads fu l ⟨1,n,nilP⟩ d):=by
 have hz:Rep w (NT h.L w) nilP (.agg #[.int .i64 0,.int .i64 0,.complex .f64 0 0,.string ⟨#[]⟩,.slice none 0 0]):=rep_nil _ _;by_cases hf:fu < 1
 ·have H:=zh (tell_no x hf 1 n (.int .i64 0) (.int .i64 0) (.complex .f64 0 0) (.string ⟨#[]⟩) (.slice none 0 0))
  clear x
  go_enter Tryz.func56,Tryz.ntmps56
  go_wp2_with (go_at_call 90;refine Calls.mono (zu H) ?_;rintro e w1 ⟨rfl,hs,hk⟩;have HS:=zh hs;have HK:=zh hk;clear hs hk)
  go_ret;exact⟨zu HK,Or.inl ⟨hf,rfl,_,hx,zu HS⟩⟩
 ·have H:=zh (tell_yes x (by omega) hf2 hne 1 n nilP _ _ _ _ _ hz)
  clear x hz
  go_enter Tryz.func56,Tryz.ntmps56
  go_wp2_with (go_at_call 90;refine Calls.mono (zu H) ?_;rintro e w1 ⟨rfl,⟨ea,ec,a,cap,hs⟩,hk⟩;have HS:=zh hs;have HK:=zh hk;clear hs hk)
  go_ret;have hs:=zu HS;rw[cp_nil] at hs;refine⟨zu HK,Or.inr ⟨by omega,rfl,ea,ec,_,hx.snoc (e:=⟨1,n,nilP⟩) (a:=a) (cap:=cap),?_⟩⟩;rw[List.length_append];exact hs
theorem out_v (l:List SEv) (x:SB h w cs ads fu l.length evs d) (hx:EvR l evs) (hf2:fu≤1000000) (hne:l.length≤1000000) (p:PV) (c0 c1 c2 c3 c4:Value) (hp:Rep w (NT h.L w) p (.agg #[c0,c1,c2,c3,c4])):Calls Tryz.prog 57 #[.pointer (some ⟨h.r,0,none⟩),.agg #[c0,c1,c2,c3,c4]] w (TellS h w cs ads fu l ⟨2,0,cp p⟩ d):=by
 have hL:=x.ltL;have hF:SvF5 h.L w (w.alloc (.cells #[c0,c1,c2,c3,c4] 32)):=SvF5.of hL (Ext.alloc _ _);have x1:=x.ext (Ext.alloc w (.cells #[c0,c1,c2,c3,c4] 32));have HF:=zh hF;by_cases hf:fu < 1
 ·have H:=zh (tell_no x1 hf 2 0 c0 c1 c2 c3 c4)
  clear x x1 hF hp
  go_enter Tryz.func57,Tryz.ntmps57
  go_wp2_with (go_at_call 90;refine Calls.mono (zu H) ?_;rintro e w1 ⟨rfl,hs,hk⟩;have HS:=zh hs;have HK:=zh hk;clear hs hk)
  go_ret;exact⟨(zu HF).trans (zu HK),Or.inl ⟨hf,rfl,_,hx,zu HS⟩⟩
 ·have H:=zh (tell_yes x1 (by omega) hf2 hne 2 0 p c0 c1 c2 c3 c4 (Rep.to hF.nt _ _ hp))
  clear x x1 hF hp
  go_enter Tryz.func57,Tryz.ntmps57
  go_wp2_with (go_at_call 90;refine Calls.mono (zu H) ?_;rintro e w1 ⟨rfl,⟨ea,ec,a,cap,hs⟩,hk⟩;have HS:=zh hs;have HK:=zh hk;clear hs hk)
  go_ret;refine⟨(zu HF).trans (zu HK),Or.inr ⟨by omega,rfl,ea,ec,_,hx.snoc (e:=⟨2,0,cp p⟩) (a:=a) (cap:=cap),?_⟩⟩;rw[List.length_append];exact zu HS
abbrev trV (ea:Option Addr) (ne ec:Nat) (c0 c1 c2 c3 c4:Value) (e:Int):Value:=.agg #[.slice ea ne ec,c0,c1,c2,c3,c4,.int .i64 e]
theorem ended_v (x:SB h w cs ads fu ne evs d) (e:Int):Calls Tryz.prog 24 #[.pointer (some ⟨h.r,0,none⟩),.int .i64 e] w fun en w'=>en = .returned (trV d.ea ne d.ec (.int .i64 0) (.int .i64 0) (.complex .f64 0 0) (.string ⟨#[]⟩) (.slice none 0 0) e)∧Ext w w':=by
 have hr:=x.ltr;obtain⟨r0,r1,rf⟩:=x.recs;have hrn:h.r≠w.heap.size:=by omega
 clear x
 go_enter Tryz.func24,Tryz.ntmps24
 go_wp2_with fail
 exact bodyPost_ret (v:=trV d.ea ne d.ec (.int .i64 0) (.int .i64 0) (.complex .f64 0 0) (.string ⟨#[]⟩) (.slice none 0 0) e) (by simp[results,Tryz.results24,go_sem]) rfl ⟨rfl,Ext.alloc _ _⟩
theorem enterCopy (v:Value) (w:World):(callFunc 59 #[v]).run Tryz.prog w = .ok (.enter 59 #[v]) w:=by kernel_rfl
theorem returned_v (x:SB h w cs ads fu ne evs d) (p:PV) (c0 c1 c2 c3 c4:Value) (hp:Rep w (In w) p (.agg #[c0,c1,c2,c3,c4])):Calls Tryz.prog 25 #[.pointer (some ⟨h.r,0,none⟩),.agg #[c0,c1,c2,c3,c4]] w fun en w' => ∃ a cap,en = .returned (trV d.ea ne d.ec (.int .i64 (cp p).k) (.int .i64 (cp p).n) (.complex .f64 (cp p).re (cp p).im) (.string (cp p).s) (.slice a (cp p).l.length cap) 0)∧Ext w w':=by
 have hr:=x.ltr;obtain⟨r0,r1,rf⟩:=x.recs;have HC:=zh (fun (W:World) (k:Ext w W)=>copy_any p _ W (hp.ext k));have hrn:h.r≠w.heap.size:=by omega
 have hrn2:h.r≠w.heap.size+1:=by omega
 clear x hp;generalize cp p=q at *;obtain⟨qk,qn,qre,qim,qs,ql⟩:=q
 go_enter Tryz.func25,Tryz.ntmps25
 go_wp2_with fail
 obtain⟨W,hW⟩:∃ W,W=(w.alloc (.cells #[c0,c1,c2,c3,c4] 32)).alloc (.cells #[.slice none 0 0,.int .i64 0,.int .i64 0,.complex .f64 0 0,.string ⟨#[]⟩,.slice none 0 0,.int .i64 0] 35):=⟨_,rfl⟩;rw[← hW];have X:Ext w W:=by rw[hW];exact(Ext.alloc _ _).trans (Ext.alloc _ _)
 have sW:W.heap.size=w.heap.size+1+1:=by rw[hW];simp
 have bV:W.heap[w.heap.size]? = some (.cells #[c0,c1,c2,c3,c4] 32 (0,0)):=by rw[hW];exact(Ext.alloc _ _).row (Go.heap_alloc_new w _)
 have bT:W.heap[w.heap.size+1]? = some (.cells #[.slice none 0 0,.int .i64 0,.int .i64 0,.complex .f64 0 0,.string ⟨#[]⟩,.slice none 0 0,.int .i64 0] 35 (0,0)):=by
  rw[hW];have:=Go.heap_alloc_new (w.alloc (.cells #[c0,c1,c2,c3,c4] 32)) (.cells #[.slice none 0 0,.int .i64 0,.int .i64 0,.complex .f64 0 0,.string ⟨#[]⟩,.slice none 0 0,.int .i64 0] 35)
  simpa using this
 have r1W:=X.cell r1;have v0:W.cell? ⟨w.heap.size,0,none⟩=some c0:=zr bV 0 rfl;have v1:W.cell? ⟨w.heap.size,1,none⟩=some c1:=zr bV 1 rfl;have v2:W.cell? ⟨w.heap.size,2,none⟩=some c2:=zr bV 2 rfl;have v3:W.cell? ⟨w.heap.size,3,none⟩=some c3:=zr bV 3 rfl;have v4:W.cell? ⟨w.heap.size,4,none⟩=some c4:=zr bV 4 rfl;have HX:=zh X;have HT:=zh bT;have HR1:=zh r1W;clear hW X bV bT r0 r1 rf;refine wp_nrm ?_
 go_region_law (first
  | (refine step_call_one rfl 59 (.tmp 9) 32 rfl _ (by simp[Act.eval,Act.put]) (enterCopy _ _) (Calls.mono (zu HC _ ((zu HX).trans (Ext.drew (Ext.refl _)))) ?_);rintro e w3 ⟨v3',rfl,hr3,hx3⟩;rw[Rep] at hr3;obtain⟨a3,cap3,rfl,hbd3,_⟩:=hr3;refine⟨_,rfl,?_⟩;have r13:=hx3.cell (zu HR1);have b3:=hx3.row (zu HT);have t0:=zr b3 0 rfl;have t1:=zr b3 1 rfl;have t2:=zr b3 2 rfl;have t3:=zr b3 3 rfl;have t4:=zr b3 4 rfl;have t5:=zr b3 5 rfl;have t6:=zr b3 6 rfl;have tf:=fun i=>rowF b3 i;have X3:=zh ((zu HX).trans ((Ext.drew (Ext.refl _)).trans hx3));have HB3:=zh b3;clear hx3 b3))
 all_goals
  refine nrm_outS ?_
  go_wp2_with fail
  obtain⟨W9,hW9⟩:∃ W9,W9=((((((w3.setCell ⟨w.heap.size+1,0,none⟩ (.slice d.ea ne d.ec)).setCell ⟨w.heap.size+1,1,none⟩ (.int .i64 qk)).setCell ⟨w.heap.size+1,2,none⟩ (.int .i64 qn)).setCell ⟨w.heap.size+1,3,none⟩ (.complex .f64 qre qim)).setCell ⟨w.heap.size+1,4,none⟩ (.string qs)).setCell ⟨w.heap.size+1,5,none⟩ (.slice a3 ql.length cap3)).setCell ⟨w.heap.size+1,6,none⟩ (.int .i64 0):=⟨_,rfl⟩;rw[← hW9];have b9:W9.heap[w.heap.size+1]? = some (.cells #[.slice d.ea ne d.ec,.int .i64 qk,.int .i64 qn,.complex .f64 qre qim,.string qs,.slice a3 ql.length cap3,.int .i64 0] 35 (0,0)):=by
   rw[hW9];exact row_set (row_set (row_set (row_set (row_set (row_set (row_set (zu HB3) 0 _) 1 _) 2 _) 3 _) 4 _) 5 _) 6 _
  have hle:w.heap.size≤w.heap.size+1:=by omega
  have X9:Ext w W9:=by
   rw[hW9];exact(((((((zu X3).set hle _).set hle _).set hle _).set hle _).set hle _).set hle _).set hle _
  clear hW9;have u0:W9.cell? ⟨w.heap.size+1,0,none⟩=some (.slice d.ea ne d.ec):=zr b9 0 rfl;have u1:W9.cell? ⟨w.heap.size+1,1,none⟩=some (.int .i64 qk):=zr b9 1 rfl;have u2:W9.cell? ⟨w.heap.size+1,2,none⟩=some (.int .i64 qn):=zr b9 2 rfl;have u3:W9.cell? ⟨w.heap.size+1,3,none⟩=some (.complex .f64 qre qim):=zr b9 3 rfl;have u4:W9.cell? ⟨w.heap.size+1,4,none⟩=some (.string qs):=zr b9 4 rfl;have u5:W9.cell? ⟨w.heap.size+1,5,none⟩=some (.slice a3 ql.length cap3):=zr b9 5 rfl;have u6:W9.cell? ⟨w.heap.size+1,6,none⟩=some (.int .i64 0):=zr b9 6 rfl;clear t0 t1 t2 t3 t4 t5 t6 tf r13 v0 v1 v2 v3 v4
  exact bodyPost_ret (v:=trV d.ea ne d.ec (.int .i64 qk) (.int .i64 qn) (.complex .f64 qre qim) (.string qs) (.slice a3 ql.length cap3) 0) (by simp[results,Tryz.results25,go_sem,u0,u1,u2,u3,u4,u5,u6]) rfl ⟨a3,cap3,rfl,X9⟩
end V
namespace V
variable {w w' w2:World}
abbrev itV (n:Int) (a:Option Addr) (c:Nat):Value:=.agg #[.int .i64 1,.int .i64 n,.complex .f64 0 0,.string ⟨#[]⟩,.slice a 0 c]
theorem taken_it (n:Int) (a:Option Addr) (c:Nat) (h1:-9223372036854775808≤n) (h2:n≤9223372036854775807) (W:World):Calls Tryz.prog 89 #[itV n a c] W fun e w'=>e = .returned (itV n a c)∧Ext W w':=by
 have:=taken_val (it n) (itV n a c) W (rep_it _ _ _ h1 h2 _ _);rw[okv_it,if_pos rfl] at this;exact this
theorem equal_it (n m:Int) (a b:Option Addr) (c e:Nat) (W:World):Calls Tryz.prog 180 #[itV n a c,itV m b e] W fun e w'=>e = .returned (.bool (decide (n=m)))∧Ext W w':=by
 by_cases h:n=m
 ·subst h
  rw[decide_eq_true rfl];have hw:Hd (∀ W,Calls Tryz.prog 186 #[.complex .f64 0 0,.complex .f64 0 0] W fun e w'=>e = .returned (.bool true)∧w' = W):=fun W=>same_any 0 0 0 0 W (by unfold Wd;decide) (by unfold Wd;decide) (by unfold Wd;decide) (by unfold Wd;decide)
  go_enter Tryz.func180,Tryz.ntmps180
  go_wp2_with (go_at_call 186;refine Calls.mono (zu hw _) ?_;rintro e w' ⟨rfl,rfl⟩)
  go_loopw [46] (fun t wr=>t = .int .i64 0∧Hd (Ext W wr)) (fun _ _ => 0)
  case atStart=>exact⟨rfl,(Ext.alloc _ _).trans (Ext.alloc _ _)⟩
  case round =>
   obtain⟨rfl,hX⟩:=hrel
   go_wp2_with fail
   go_ret;exact⟨rfl,zu hX⟩
 ·rw[decide_eq_false h]
  have h2:(n == m)=false:=by rw[beq_eq_false_iff_ne];exact h
  have h3:(n != m)=true:=by rw[bne_iff_ne];exact h
  go_enter Tryz.func180,Tryz.ntmps180
  go_wp2_with fail
  go_ret;exact⟨rfl,(Ext.alloc _ _).trans (Ext.alloc _ _)⟩
theorem same_it (n m:Int) (a b:Option Addr) (c e:Nat) (h1:-9223372036854775808≤n) (h2:n≤9223372036854775807) (h3:-9223372036854775808≤m) (h4:m≤9223372036854775807) (w:World):Calls Tryz.prog 161 #[itV n a c,itV m b e] w fun e w'=>e = .returned (.bool (decide (n=m)))∧Ext w w':=by
 have HT:=zh (fun W=>taken_it n a c h1 h2 W);have HU:=zh (fun W=>taken_it m b e h3 h4 W);have HE:=zh (fun W=>equal_it n m a b c e W);obtain⟨W,hW⟩:∃ W,W=(w.alloc (.cells #[.int .i64 1,.int .i64 n,.complex .f64 0 0,.string ⟨#[]⟩,.slice a 0 c] 32)).alloc (.cells #[.int .i64 1,.int .i64 m,.complex .f64 0 0,.string ⟨#[]⟩,.slice b 0 e] 32):=⟨_,rfl⟩;have XW:Hd (Ext w W):=by rw[hW];exact(Ext.alloc _ _).trans (Ext.alloc _ _)
 have r1:W.heap[w.heap.size]? = some (.cells #[.int .i64 1,.int .i64 n,.complex .f64 0 0,.string ⟨#[]⟩,.slice a 0 c] 32 (0,0)):=by
  rw[hW,(Ext.alloc _ _).block w.heap.size (by simp)];exact Go.heap_alloc_new w _
 have r2:W.heap[w.heap.size+1]? = some (.cells #[.int .i64 1,.int .i64 m,.complex .f64 0 0,.string ⟨#[]⟩,.slice b 0 e] 32 (0,0)):=by
  rw[hW,show w.heap.size+1=(w.alloc (.cells #[.int .i64 1,.int .i64 n,.complex .f64 0 0,.string ⟨#[]⟩,.slice a 0 c] 32)).heap.size by simp];exact Go.heap_alloc_new _ _
 have k0:∀ v1:RGw W,v1.w.cell? ⟨w.heap.size,0,none⟩=some (.int .i64 1):=fun v1=>v1.h.cell (zr r1 0 rfl);have k1:∀ v1:RGw W,v1.w.cell? ⟨w.heap.size,1,none⟩=some (.int .i64 n):=fun v1=>v1.h.cell (zr r1 1 rfl);have k2:∀ v1:RGw W,v1.w.cell? ⟨w.heap.size,2,none⟩=some (.complex .f64 0 0):=fun v1=>v1.h.cell (zr r1 2 rfl);have k3:∀ v1:RGw W,v1.w.cell? ⟨w.heap.size,3,none⟩=some (.string ⟨#[]⟩):=fun v1=>v1.h.cell (zr r1 3 rfl);have k4:∀ v1:RGw W,v1.w.cell? ⟨w.heap.size,4,none⟩=some (.slice a 0 c):=fun v1=>v1.h.cell (zr r1 4 rfl);have q0:∀ v1:RGw W,v1.w.cell? ⟨w.heap.size+1,0,none⟩=some (.int .i64 1):=fun v1=>v1.h.cell (zr r2 0 rfl);have q1:∀ v1:RGw W,v1.w.cell? ⟨w.heap.size+1,1,none⟩=some (.int .i64 m):=fun v1=>v1.h.cell (zr r2 1 rfl)
 have q2:∀ v1:RGw W,v1.w.cell? ⟨w.heap.size+1,2,none⟩=some (.complex .f64 0 0):=fun v1=>v1.h.cell (zr r2 2 rfl);have q3:∀ v1:RGw W,v1.w.cell? ⟨w.heap.size+1,3,none⟩=some (.string ⟨#[]⟩):=fun v1=>v1.h.cell (zr r2 3 rfl);have q4:∀ v1:RGw W,v1.w.cell? ⟨w.heap.size+1,4,none⟩=some (.slice b 0 e):=fun v1=>v1.h.cell (zr r2 4 rfl);clear r1 r2 h1 h2 h3 h4
 go_enter Tryz.func161,Tryz.ntmps161
 go_wp2_with fail
 have hne:Nonempty (RGw W):=⟨⟨W,Ext.refl _⟩⟩;refine wp_region_rx (W:=W) (by kernel_rfl) (by kernel_rfl) (by rw[hW];exact Ext.refl _) ?_
 try simp only[List.append_eq,List.cons_append,List.nil_append]
 repeat (go_big_quiet_step (first
  | (go_at_call 89;first | exact Calls.rx_of _ _ (zu HT _) | exact Calls.rx_of _ _ (zu HU _))
  | (go_at_call 180;exact Calls.rx_of _ _ (zu HE _))))
 refine wpQuiet_nil ?_;rintro w8 ⟨⟨_,hx⟩,rfl⟩;have X8:=zh ((zu XW).trans hx);clear hx
 go_wp2_with fail
 go_ret;exact⟨rfl,zu X8⟩
theorem osame_it (n n':Int) (a a':Option Addr) (c c':Nat) (w:World) (h1:-9223372036854775808≤n) (h2:n≤9223372036854775807) (h3:-9223372036854775808≤n') (h4:n'≤9223372036854775807):Ans 130 #[itV n a c,itV n' a' c'] w (it (if n=n' then 1 else 0)) 0:=by
 have hS:=fun W=>same_it n n' a a' c c' h1 h2 h3 h4 W;obtain⟨b,hb⟩:∃ b,b=decide (n=n'):=⟨_,rfl⟩;have hq:(if n=n' then (1:Int) else 0)=if b then 1 else 0:=by rw[hb];by_cases e:n=n' <;> simp[e]
 rw[← hb] at hS;rw[hq];have hT:=fun W=>told_any b W;have ht:-9223372036854775808≤(if b=true then (1:Int) else 0)∧(if b=true then (1:Int) else 0)≤9223372036854775807:=by cases b <;> decide
 clear hq hb h1 h2 h3 h4;unfold Ans;generalize (if b=true then (1:Int) else 0)=t at hT ht ⊢
 have HS:=zh hS;have HT:=zh hT;clear hS hT
 go_enter Tryz.func130,Tryz.ntmps130
 go_wp2_with (first
  | (go_at_call 161;refine Calls.mono (zu HS _) ?_;rintro e w1 ⟨rfl,hw1⟩;have W1:=zh hw1;clear hw1)
  | (go_at_call 160;refine Calls.mono (zu HT _) ?_;rintro e w2 ⟨rfl,hw2⟩;have W2:=zh ((zu W1).trans hw2);have fZ:=(Five.new _ _ _ _ _ _ _ _ _ _).on (zu W2);simp only[heap_alloc_size] at fZ;have z0:=fZ.c0;have z1:=fZ.c1;have z2:=fZ.c2;have z3:=fZ.c3;have z4:=fZ.c4;have zf:=fZ.fz;clear fZ hw2))
 exact bodyPost_ret (v:=.tuple #[.agg #[.int .i64 1,.int .i64 t,.complex .f64 0 0,.string ⟨#[]⟩,.slice none 0 0],.int .i64 0]) (by simp[results,Tryz.results130,go_sem,z0,z1,z2,z3,z4]) rfl (ans5 0 (w.heap.size+1+1) (((Ext.alloc _ _).trans (Ext.alloc _ _)).trans (Ext.alloc _ _)) (by omega) (by simp) (zu W2) (rep_it _ _ _ ht.1 ht.2 _ _))
theorem bin_same (n n':Int) (a a':Option Addr) (c c':Nat) (w:World) (h1:-9223372036854775808≤n) (h2:n≤9223372036854775807) (h3:-9223372036854775808≤n') (h4:n'≤9223372036854775807):Ans 92 #[.int .i64 6,itV n a c,itV n' a' c'] w (it (if n=n' then 1 else 0)) 0:=by
 refine binary_any 6 130 (by decide) (by decide) (fun W=>by kernel_rfl) (fun v u W=>by kernel_rfl) (it n) (it n') _ _ w (rep_it _ _ _ h1 h2 _ _) (rep_it _ _ _ h3 h4 _ _) _ _ fun W _ => ?_;rw[okv_it,okv_it,if_pos rfl,if_pos rfl];exact osame_it n n' a a' c c' W h1 h2 h3 h4
theorem rep_itE {F:Nat→Prop} {n:Int} {v:Value} (h:Rep w F (it n) v):∃ a c,v=itV n a c∧-9223372036854775808≤n∧n≤9223372036854775807:=by
 rw[it,Rep] at h;obtain⟨a,c,rfl,hb,_⟩:=h;exact⟨a,c,rfl,hb.bn1,hb.bn2⟩
theorem sbin_w (o:Int) (p q v:PV) (x y:Value) (hb:sBin o p q=some v) (hp:Rep w (In w) p x) (hq:Rep w (In w) q y):Ans 92 #[.int .i64 o,x,y] w v 0:=by
 unfold sBin at hb;cases h1:isIt p with
 | none=>rw[h1] at hb;cases hb
 | some n =>
 cases h2:isIt q with
 | none=>rw[h1,h2] at hb;cases hb
 | some m =>
 rw[h1,h2] at hb;simp only at hb;have e1:=isIt_some h1;have e2:=isIt_some h2;subst e1 e2;obtain⟨a,c,rfl,b1,b2⟩:=rep_itE hp;obtain⟨a',c',rfl,b3,b4⟩:=rep_itE hq;by_cases o1:o=1
 ·rw[if_pos o1] at hb;injection hb with hb;subst o1 hb;exact bin_add n m a a' c c' w b1 b2 b3 b4
 rw[if_neg o1] at hb;by_cases o2:o=2
 ·rw[if_pos o2] at hb;injection hb with hb;subst o2 hb;exact bin_sub n m a a' c c' w b1 b2 b3 b4
 rw[if_neg o2] at hb;by_cases o6:o=6
 ·rw[if_pos o6] at hb;injection hb with hb;subst o6 hb;exact bin_same n m a a' c c' w b1 b2 b3 b4
 rw[if_neg o6] at hb;by_cases o8:o=8
 ·rw[if_pos o8] at hb;injection hb with hb;subst o8 hb
  have h:=bin_lt n m a a' c c' w b1 b2 b3 b4 (decide (n < m)) rfl;have e:(if decide (n < m)=true then (1:Int) else 0)=if n < m then 1 else 0:=by by_cases e:n < m <;> simp[e]
  rw[e] at h;exact h
 ·rw[if_neg o8] at hb;cases hb
end V
namespace V
variable {w w' w2:World} {h:SHd} {cs:List (Nat × Nat × Nat)} {ads:List Addr} {fu:Int} {ne:Nat} {evs:List Value} {d:SAd}
theorem notT5:¬ T5 32:=by unfold T5;decide
theorem nrm_outU {Q:Exit→Act→World→Prop} {a:Act} {w:World} (h:Q .normal a w):Nrm Q .normal a w:=h
theorem PtV.new {L:Nat} (hL:L≤w.heap.size) (p:PV) (c0 c1 c2 c3 c4:Value) (hp:Rep w (NT L w) p (.agg #[c0,c1,c2,c3,c4])):PtV L (w.alloc (.cells #[c0,c1,c2,c3,c4] 32)) ⟨w.heap.size,0,none⟩ p:=by
 obtain⟨k,n,re,im,s,l⟩:=p;rw[Rep] at hp;obtain⟨a,cap,e,hb,hl⟩:=hp;injection e with e;simp at e;obtain⟨rfl,rfl,rfl,rfl,rfl⟩:=e;have hr:=Go.heap_alloc_new w (.cells #[.int .i64 k,.int .i64 n,.complex .f64 re im,.string s,.slice a l.length cap] 32);have hF:SvF5 L w (w.alloc (.cells #[.int .i64 k,.int .i64 n,.complex .f64 re im,.string s,.slice a l.length cap] 32)):=SvF5.of hL (Ext.alloc _ _);exact⟨_,_,a,cap,rfl,⟨NT.new hL _ _ notT5,zr hr 0 rfl,zr hr 1 rfl,zr hr 2 rfl,zr hr 3 rfl,zr hr 4 rfl,hb,RepL.to hF.nt _ _ hl⟩⟩
theorem keep_v (x:SB h w cs ads fu ne evs d) (hn:ads.length≤1000000) (p:PV) (c0 c1 c2 c3 c4:Value) (hp:Rep w (NT h.L w) p (.agg #[c0,c1,c2,c3,c4])):Calls Tryz.prog 91 #[.pointer (some ⟨h.g,0,none⟩),.agg #[c0,c1,c2,c3,c4],.int .i64 0] w fun e w'=>e = .returned (.int .i64 0)∧(∃ a va vc,SB h w' cs (ads++[a]) fu ne evs { d with va:=va,vc:=vc }∧PtV h.L w' a p)∧SvF5 h.L w w':=by
 have hL:=x.ltL;have HP:=zh (PtV.new hL p c0 c1 c2 c3 c4 hp);have HU:=zh (push_v (x.ext (Ext.alloc w (.cells #[c0,c1,c2,c3,c4] 32))) (by omega) ⟨w.heap.size,0,none⟩);clear x hp
 go_enter Tryz.func91,Tryz.ntmps91
 go_wp2_with (go_at_call 53;refine Calls.mono (zu HU) ?_;rintro e w1 ⟨rfl,⟨va,vc,hs⟩,hf⟩;have HS:=zh hs;have HF:=zh hf;clear hs hf)
 go_ret;exact⟨rfl,⟨_,_,_,zu HS,(zu HP).on (zu HF)⟩,(SvF5.of hL (Ext.alloc _ _)).trans (zu HF)⟩
theorem sBin_it {o:Int} {p q v:PV} (hb:sBin o p q=some v):∃ k,v=it k:=by
 unfold sBin at hb;cases h1:isIt p with
 | none=>rw[h1] at hb;cases hb
 | some n =>
 cases h2:isIt q with
 | none=>rw[h1,h2] at hb;cases hb
 | some m =>
 rw[h1,h2] at hb;simp only at hb
 repeat (split at hb;· injection hb with hb;exact⟨_,hb.symm⟩)
 cases hb
theorem enterBinary (v u x:Value) (w:World):(callFunc 92 #[v,u,x]).run Tryz.prog w = .ok (.enter 92 #[v,u,x]) w:=by kernel_rfl
theorem enterKeep (v u x:Value) (w:World):(callFunc 91 #[v,u,x]).run Tryz.prog w = .ok (.enter 91 #[v,u,x]) w:=by kernel_rfl
theorem step_call_threeS {P:Program} {w:World} {ops:Array Oper} {o:Oper} {a:Act} {K:Act→World→Prop} {Q:Exit→Act→World→Prop} {E:Prop}
  (hg:o.guard=none) (f:FuncId) (x y z:Operand) (t u s:TypeId) (hop:o.op=Op.call { callee:=Callee.value (.func f),args:=#[x,y,z],argTypes:=#[t,u,s] })
  (v v' v'':Value) (hx:a.eval x=v) (hy:a.eval y=v') (hz:a.eval z=v'') (hf:(callFunc f #[v,v',v'']).run P w = .ok (.enter f #[v,v',v'']) w) (hK:Calls P f #[v,v',v''] w fun e w' => ∃ r,e = .returned r∧K (a.put o.dst r) w') :
  if Region.wanted o (yielded ops a.tmps)=true then Oper.wp P o a w K Q else E:=by
 have hw:Region.wanted o (yielded ops a.tmps)=true:=by simp[Region.wanted,hg]
 rw[if_pos hw];have he:a.eval (.func f) = .func (.func f) #[] #[]:=rfl;unfold Oper.wp;have hrun:(execOp a.eval o).run P w = .ok (.enter f #[v,v',v'']) w:=by
  simp[execOp,hop,resolve,invoke,hx,hy,hz,he,Result.andThen,Deferred.ofValue,hf]
 rw[hrun,Oper.upon_enter];refine hK.mono ?_;rintro e w' ⟨r,rfl,h⟩;exact h
theorem work_v {us:List Addr} {a1 a2:Addr} (x:SB h w cs (us++[a1]++[a2]) fu ne evs d) (hn:us.length≤999990) (o b:Int) (p q v:PV) (hb:sBin o p q=some v) (hp:PtV h.L w a1 p) (hq:PtV h.L w a2 q):Calls Tryz.prog 58 #[.pointer (some ⟨h.g,0,none⟩),.agg #[.int .i64 5,.int .i64 o,.int .i64 b]] w fun e w'=>e = .returned (.int .i64 0)∧(∃ a va vc,SB h w' cs (us++[a]) fu ne evs { d with va:=va,vc:=vc }∧PtV h.L w' a v)∧SvF5 h.L w w':=by
 have hL:=x.ltL;obtain⟨W,hW⟩:∃ W,W=w.alloc (.cells #[.int .i64 5,.int .i64 o,.int .i64 b] 128):=⟨_,rfl⟩;have X:Ext w W:=by rw[hW];exact Ext.alloc _ _
 have rI:W.heap[w.heap.size]? = some (.cells #[.int .i64 5,.int .i64 o,.int .i64 b] 128 (0,0)):=by rw[hW];exact Go.heap_alloc_new w _
 have F0:SvF5 h.L w W:=SvF5.of hL X;have HT:=take_v (x.ext X) (by simp;omega) 2 us.length (by decide) (by simp);rw[show ((2:Nat):Int)=2 from rfl] at HT;have HT:=zh HT;obtain⟨k,hk⟩:=sBin_it hb;obtain⟨b1,o1,sa1,sc1,rfl,E1⟩:=hp.on F0;obtain⟨b2,o2,sa2,sc2,rfl,E2⟩:=hq.on F0;have HE1:=zh E1;have HE2:=zh E2;have HRI:=zh rI;have HF0:=zh F0;have HK:=zh hk;have HB:=zh hb;have HW:=zh hW;clear x hp hq E1 E2 F0 rI hk hb X hW
 go_enter Tryz.func58,Tryz.ntmps58
 go_wp2_with (go_at_call 60;rw[← zu HW];refine Calls.mono (zu HT) ?_;rintro e w1 ⟨⟨vb,tc,rfl,htc,hcell⟩,hs,hf⟩;have k0:=hcell 0 ⟨b1,o1,none⟩ (by simp);have k1:=hcell 1 ⟨b2,o2,none⟩ (by simp);rw[Nat.add_zero] at k0;rw[List.append_assoc,List.take_left] at hs;have HS:=zh hs;have HF:=zh hf;clear hs hf hcell)
 have E1:=(zu HE1).to (zu HF).nt;have E2:=(zu HE2).to (zu HF).nt;have n1:w1.cell? ⟨w.heap.size,1,none⟩=some (.int .i64 o):=zr (((zu HF).typ _ _ _ _ (zu HRI) (by unfold T5;decide))) 1 rfl;have XD:Ext w1 (World.drew w1):=Ext.drew (Ext.refl w1);have RP:Rep (World.drew w1) (In (World.drew w1)) p _:=Rep.to (w:=w1) (w':=World.drew w1) (F:=NT h.L w1) (F':=In (World.drew w1)) (fun b hb=>⟨hb.1,rfl⟩) _ _ E1.rep;have RQ:Rep (World.drew w1) (In (World.drew w1)) q _:=Rep.to (w:=w1) (w':=World.drew w1) (F:=NT h.L w1) (F':=In (World.drew w1)) (fun b hb=>⟨hb.1,rfl⟩) _ _ E2.rep;have hBn:=sbin_w (w:=World.drew w1) o p q v _ _ (zu HB) RP RQ;rw[zu HK] at hBn;have HBn:=zh hBn;have e10:=E1.c0;have e11:=E1.c1;have e12:=E1.c2;have e13:=E1.c3;have e14:=E1.c4;have e20:=E2.c0;have e21:=E2.c1;have e22:=E2.c2
 have e23:=E2.c3;have e24:=E2.c4;have hL1:=(zu HS).ltL;clear hBn RP RQ E1 E2;refine wp_nrm ?_
 go_region_law (first
  | (refine step_call_threeS rfl 92 (.tmp 14) (.tmp 19) (.tmp 24) 3 32 32 rfl _ _ _ (by simp[Act.eval,Act.put]) (by simp[Act.eval,Act.put]) (by simp[Act.eval,Act.put]) (enterBinary _ _ _ _) (Calls.mono (zu HBn) ?_);rintro e w5 ⟨r5,rfl,hr5,hx5⟩;obtain⟨a5,c5,rfl,q1,q2⟩:=rep_itE hr5;refine⟨_,rfl,?_⟩;have HKp:=zh (keep_v (((zu HS).ext (Ext.drew (Ext.refl _))).ext hx5) (by omega) (it k) _ _ _ _ _ (rep_it _ _ _ q1 q2 a5 c5));have X5:=zh ((Ext.drew (Ext.refl w1)).trans hx5);clear hr5 hx5)
  | (have G:=zu HKp;clear G;refine step_call_threeS rfl 91 (.tmp 12) (.tmp 26) (.tmp 27) 95 32 33 rfl _ _ _ (by simp[Act.eval,Act.put]) (by simp[Act.eval,Act.put]) (by simp[Act.eval,Act.put]) (enterKeep _ _ _ _) (Calls.mono (zu HKp) ?_);rintro e w6 ⟨rfl,⟨a6,va6,vc6,hs6,hp6⟩,hf6⟩;refine⟨_,rfl,?_⟩;have HS6:=zh hs6;have HP6:=zh hp6;have HF6:=zh hf6;clear hs6 hp6 hf6))
 all_goals
  refine nrm_outU ?_
  go_wp2_with fail
  go_ret;exact⟨rfl,⟨_,_,_,zu HS6,by rw[zu HK];exact zu HP6⟩,((zu HF0).trans (zu HF)).trans ((SvF5.of hL1 (zu X5)).trans (zu HF6))⟩
end V
namespace V
variable {w w' w2:World} {h:SHd} {cs:List (Nat × Nat × Nat)} {ads:List Addr} {fu:Int} {ne:Nat} {evs:List Value} {d:SAd}
theorem st_tick (fns:List KF) (f:KF) {bs:List (Nat × Nat × Nat)} {fn pc base:Nat} (a b:Int) (hf:fns[fn]? = some f) (hi:f.code[pc]? = some ⟨12,a,b⟩) (hfl:h.fl=fns.length) (hp:RepP w (fun b=>b < h.L) h.fa fns) (x:SB h w (bs++[(fn,pc,base)]) ads fu ne evs d) (hbs:bs.length≤1000000) (hpc:pc≤1000000) (l:List SEv) (hl:ne=l.length) (hev:EvR l evs) (hfu:fu≤1000000) (hnl:l.length≤1000000):Calls Tryz.prog 23 #[.pointer (some ⟨h.g,0,none⟩)] w (TellS h w (bs++[(fn,pc+1,base)]) ads fu l ⟨1,a,nilP⟩ d):=by
 obtain⟨c0,c1,c2,c3,c4,zf⟩:=x.cells;obtain⟨fb,fo,fca,fcc,fka,fkc,e1,hfb,k0,k1,k2,k3,k4,hcs,hcd⟩:=hp.at hf;obtain⟨ib,io,e3,hib,i0,i1,i2⟩:=hcd.at hi;subst e3;obtain⟨cb,e2,hcc,hcB,hcf,hcell⟩:=x.cb (by simp);obtain⟨j0,j1,j2⟩:=hcell bs.length (fn,pc,base) (by simp);simp only[List.length_append,List.length_cons,List.length_nil] at c1 hcc j0 j1 j2;rw[e2] at c1;rw[e1,hfl] at c0;have hfn:(fn:Int) < (fns.length:Int):=by have:=(List.getElem?_eq_some_iff.1 hf).1;omega
 have hpc2:(pc:Int) < (f.code.length:Int):=by have:=(List.getElem?_eq_some_iff.1 hi).1;omega
 have hwb:IntKind.i64.wrap (bs.length:Int)=(bs.length:Int):=by rw[IntKind.wrap_i64];omega
 have hbl:(bs.length:Int) < (bs.length:Int)+1:=by omega
 have hL:=x.ltL;have hg:=x.lt;have hcbw:=(x.oc.lt cb (by rw[e2];rfl)).2;have HX:=zh x;have HCS:=zh hcs;have gw:∀ {a:Addr} {u:Value},w.cell? a=some u→∀ v:RGw w,v.w.cell? a=some u:=fun h v=>v.h.cell h;have v0:=gw c0;have v1:=gw c1;have vj0:=gw j0;have hne:Nonempty (RGw w):=⟨⟨w,Ext.refl _⟩⟩;subst hl;clear x hp hf hi hcd hcell
 go_enter Tryz.func23,Tryz.ntmps23
 go_wp2_with fail
 refine wp_region_rx (W:=w) (by kernel_rfl) (by kernel_rfl) (Ext.refl _) ?_
 repeat (go_big_quiet_step (fail))
 refine wpQuiet_nil ?_;rintro w1 ⟨⟨_,hx1⟩,rfl⟩;have X1:=zh hx1;clear hx1
 go_wp2_with fail
 refine wp_region_rx (W:=w) (by kernel_rfl) (by kernel_rfl) (zu X1) ?_
 repeat (go_big_quiet_step (fail))
 refine wpQuiet_nil ?_;rintro w2 ⟨⟨_,hx2⟩,rfl⟩;have X2:=zh hx2;clear hx2;have l0:=(zu X2).cell k4;have l1:=(zu X2).cell j1;have l2:=(zu X2).cell i0;have l3:=(zu X2).cell i1;have l4:=(zu X2).cell i2;have hs2:=(zu X2).size;have m0:=fun ob=>(Ext.alloc w2 ob).cell l0;have m1:=fun ob=>(Ext.alloc w2 ob).cell l1;have m2:=fun ob=>(Ext.alloc w2 ob).cell l2;have m3:=fun ob=>(Ext.alloc w2 ob).cell l3;have m4:=fun ob=>(Ext.alloc w2 ob).cell l4
 go_wp2_with fail
 refine wp_oneS ?_;apply Exists.intro;apply Exists.intro;apply And.intro
 ·go_region_law (first | fail)
  all_goals exact nrm_outW ⟨rfl,rfl⟩
 obtain⟨W2,hW2⟩:∃ W2,W2=(w2.alloc (Obj.cells #[.int .i64 12,.int .i64 a,.int .i64 b] 128)).drew:=⟨_,rfl⟩;have Y2:Ext w W2:=by rw[hW2];exact(zu X2).trans (Ext.drew (Ext.alloc _ _))
 have s2:W2.heap.size=w2.heap.size+1:=by rw[hW2];simp
 have r2:W2.heap[w2.heap.size]? = some (.cells #[.int .i64 12,.int .i64 a,.int .i64 b] 128 (0,0)):=by rw[hW2];exact Go.heap_alloc_new w2 _
 rw[← hW2];have x3:=((zu HX).ext Y2).setAt e2 (pc+1);have epc:((pc+1:Nat):Int)=(pc:Int)+1:=by omega
 rw[epc] at x3;have p1:=Y2.cell j1;have pf:W2.frozen? ⟨cb,bs.length * 3+1,none⟩=false:=((((zu HX).ext Y2).cb (by simp)).elim (fun c hc=>by
  have e:=hc.1;rw[e2] at e;injection e with e;injection e with e;subst e;exact hc.2.2.2.1 _))
 obtain⟨W3,hW3⟩:∃ W3,W3=W2.setCell ⟨cb,bs.length * 3+1,none⟩ (.int .i64 ((pc:Int)+1)):=⟨_,rfl⟩;rw[← hW3] at x3;have hcb2:w2.heap.size≠cb:=by omega
 have r3:W3.heap[w2.heap.size]? = some (.cells #[.int .i64 12,.int .i64 a,.int .i64 b] 128 (0,0)):=by rw[hW3,Below.heap_setCell _ _ _ _ hcb2];exact r2
 have t0:W3.cell? ⟨w2.heap.size,0,none⟩=some (.int .i64 12):=zr r3 0 rfl;have t1:W3.cell? ⟨w2.heap.size,1,none⟩=some (.int .i64 a):=zr r3 1 rfl;have t2:W3.cell? ⟨w2.heap.size,2,none⟩=some (.int .i64 b):=zr r3 2 rfl;have q0:W2.cell? ⟨w2.heap.size,0,none⟩=some (.int .i64 12):=zr r2 0 rfl;have F3:SvF5 h.L w W3:=(SvF5.of hL Y2).trans x3.2;have X3:=zh x3.1;have HF3:=zh F3;have HR3:=zh r3;have HW3:=zh hW3;have q1:W2.cell? ⟨w2.heap.size,1,none⟩=some (.int .i64 a):=zr r2 1 rfl;have q2:W2.cell? ⟨w2.heap.size,2,none⟩=some (.int .i64 b):=zr r2 2 rfl;obtain⟨g0,g1,g2,g3,g4,gf⟩:=x3.1.cells;simp only[List.length_append,List.length_cons,List.length_nil] at g1;rw[e1,hfl] at g0;rw[e2] at g1
 have f3:W3.cell? ⟨fb,fo+fn * 5+3,none⟩=some (.slice fca f.cs.length fcc):=by rw[World.cell?_of_block (w:=w) (F3.low fb hfb)];exact k3
 obtain⟨cb',e2',_,_,hcf3,hcell3⟩:=x3.1.cb (by simp);rw[e2] at e2';injection e2' with e2';injection e2' with e2';subst e2';obtain⟨n0,n1,n2⟩:=hcell3 bs.length (fn,pc+1,base) (by simp);simp only at n0 n1 n2;clear hcell3 x3 F3 r2 r3 hW2 hW3 l0 l1 l2 l3 l4 m0 m1 m2 m3 m4 v0 v1 vj0 gw c0 c1 c2 c3 c4 zf;have HTk:=zh (tick_v l ((zu X3).ext (Ext.drew (Ext.refl W3))) hev hfu hnl a);have hL3:=(zu X3).ltL
 go_wp2_with fail
 rw[← zu HW3]
 go_still_tail 6,(by kernel_rfl)
 change wpList _ _ _ _ _ (World.drew W3)
 go_wp2_with (go_at_call 56;refine Calls.mono (zu HTk) ?_;rintro e w5 hT;unfold TellS at hT;have he:∃ v,e = .returned (.int .i64 v):=(by rcases hT.2 with⟨_,r,_⟩ | ⟨_,r,_⟩ <;> exact⟨_,r⟩);obtain⟨v,rfl⟩:=he;have HT5:=zh hT;clear hT)
 go_ret;unfold TellS;exact⟨((zu HF3).trans (SvF5.of hL3 (Ext.drew (Ext.refl W3)))).trans (zu HT5).1,(zu HT5).2⟩
theorem st_jump (fns:List KF) (f:KF) {bs:List (Nat × Nat × Nat)} {fn pc base:Nat} (a b:Int) (hf:fns[fn]? = some f) (hi:f.code[pc]? = some ⟨7,a,b⟩) (hfl:h.fl=fns.length) (hp:RepP w (fun b=>b < h.L) h.fa fns) (x:SB h w (bs++[(fn,pc,base)]) ads fu ne evs d) (hbs:bs.length≤1000000) (hpc:pc≤1000000) (q:Nat) (hq:a=(q:Int)):Calls Tryz.prog 23 #[.pointer (some ⟨h.g,0,none⟩)] w fun e w'=>e = .returned (.int .i64 0)∧SB h w' (bs++[(fn,q,base)]) ads fu ne evs d∧SvF5 h.L w w':=by
 obtain⟨c0,c1,c2,c3,c4,zf⟩:=x.cells;obtain⟨fb,fo,fca,fcc,fka,fkc,e1,hfb,k0,k1,k2,k3,k4,hcs,hcd⟩:=hp.at hf;obtain⟨ib,io,e3,hib,i0,i1,i2⟩:=hcd.at hi;subst e3;obtain⟨cb,e2,hcc,hcB,hcf,hcell⟩:=x.cb (by simp);obtain⟨j0,j1,j2⟩:=hcell bs.length (fn,pc,base) (by simp);simp only[List.length_append,List.length_cons,List.length_nil] at c1 hcc j0 j1 j2;rw[e2] at c1;rw[e1,hfl] at c0;have hfn:(fn:Int) < (fns.length:Int):=by have:=(List.getElem?_eq_some_iff.1 hf).1;omega
 have hpc2:(pc:Int) < (f.code.length:Int):=by have:=(List.getElem?_eq_some_iff.1 hi).1;omega
 have hwb:IntKind.i64.wrap (bs.length:Int)=(bs.length:Int):=by rw[IntKind.wrap_i64];omega
 have hbl:(bs.length:Int) < (bs.length:Int)+1:=by omega
 have hL:=x.ltL;have hg:=x.lt;have hcbw:=(x.oc.lt cb (by rw[e2];rfl)).2;have HX:=zh x;have HCS:=zh hcs;have gw:∀ {a:Addr} {u:Value},w.cell? a=some u→∀ v:RGw w,v.w.cell? a=some u:=fun h v=>v.h.cell h;have v0:=gw c0;have v1:=gw c1;have vj0:=gw j0;have hne:Nonempty (RGw w):=⟨⟨w,Ext.refl _⟩⟩;subst hq;clear x hp hf hi hcd hcell
 go_enter Tryz.func23,Tryz.ntmps23
 go_wp2_with fail
 refine wp_region_rx (W:=w) (by kernel_rfl) (by kernel_rfl) (Ext.refl _) ?_
 repeat (go_big_quiet_step (fail))
 refine wpQuiet_nil ?_;rintro w1 ⟨⟨_,hx1⟩,rfl⟩;have X1:=zh hx1;clear hx1
 go_wp2_with fail
 refine wp_region_rx (W:=w) (by kernel_rfl) (by kernel_rfl) (zu X1) ?_
 repeat (go_big_quiet_step (fail))
 refine wpQuiet_nil ?_;rintro w2 ⟨⟨_,hx2⟩,rfl⟩;have X2:=zh hx2;clear hx2;have l0:=(zu X2).cell k4;have l1:=(zu X2).cell j1;have l2:=(zu X2).cell i0;have l3:=(zu X2).cell i1;have l4:=(zu X2).cell i2;have hs2:=(zu X2).size;have m0:=fun ob=>(Ext.alloc w2 ob).cell l0;have m1:=fun ob=>(Ext.alloc w2 ob).cell l1;have m2:=fun ob=>(Ext.alloc w2 ob).cell l2;have m3:=fun ob=>(Ext.alloc w2 ob).cell l3;have m4:=fun ob=>(Ext.alloc w2 ob).cell l4
 go_wp2_with fail
 refine wp_oneS ?_;apply Exists.intro;apply Exists.intro;apply And.intro
 ·go_region_law (first | fail)
  all_goals exact nrm_outW ⟨rfl,rfl⟩
 obtain⟨W2,hW2⟩:∃ W2,W2=(w2.alloc (Obj.cells #[.int .i64 7,.int .i64 (q:Int),.int .i64 b] 128)).drew:=⟨_,rfl⟩;have Y2:Ext w W2:=by rw[hW2];exact(zu X2).trans (Ext.drew (Ext.alloc _ _))
 have s2:W2.heap.size=w2.heap.size+1:=by rw[hW2];simp
 have r2:W2.heap[w2.heap.size]? = some (.cells #[.int .i64 7,.int .i64 (q:Int),.int .i64 b] 128 (0,0)):=by rw[hW2];exact Go.heap_alloc_new w2 _
 rw[← hW2];have x3:=((zu HX).ext Y2).setAt e2 (pc+1);have epc:((pc+1:Nat):Int)=(pc:Int)+1:=by omega
 rw[epc] at x3;have p1:=Y2.cell j1;have pf:W2.frozen? ⟨cb,bs.length * 3+1,none⟩=false:=((((zu HX).ext Y2).cb (by simp)).elim (fun c hc=>by
  have e:=hc.1;rw[e2] at e;injection e with e;injection e with e;subst e;exact hc.2.2.2.1 _))
 obtain⟨W3,hW3⟩:∃ W3,W3=W2.setCell ⟨cb,bs.length * 3+1,none⟩ (.int .i64 ((pc:Int)+1)):=⟨_,rfl⟩;rw[← hW3] at x3;have hcb2:w2.heap.size≠cb:=by omega
 have r3:W3.heap[w2.heap.size]? = some (.cells #[.int .i64 7,.int .i64 (q:Int),.int .i64 b] 128 (0,0)):=by rw[hW3,Below.heap_setCell _ _ _ _ hcb2];exact r2
 have t0:W3.cell? ⟨w2.heap.size,0,none⟩=some (.int .i64 7):=zr r3 0 rfl;have t1:W3.cell? ⟨w2.heap.size,1,none⟩=some (.int .i64 (q:Int)):=zr r3 1 rfl;have t2:W3.cell? ⟨w2.heap.size,2,none⟩=some (.int .i64 b):=zr r3 2 rfl;have q0:W2.cell? ⟨w2.heap.size,0,none⟩=some (.int .i64 7):=zr r2 0 rfl;have F3:SvF5 h.L w W3:=(SvF5.of hL Y2).trans x3.2;have X3:=zh x3.1;have HF3:=zh F3;have HR3:=zh r3;have HW3:=zh hW3;have q1:W2.cell? ⟨w2.heap.size,1,none⟩=some (.int .i64 (q:Int)):=zr r2 1 rfl;have q2:W2.cell? ⟨w2.heap.size,2,none⟩=some (.int .i64 b):=zr r2 2 rfl;obtain⟨g0,g1,g2,g3,g4,gf⟩:=x3.1.cells;simp only[List.length_append,List.length_cons,List.length_nil] at g1;rw[e1,hfl] at g0;rw[e2] at g1
 have f3:W3.cell? ⟨fb,fo+fn * 5+3,none⟩=some (.slice fca f.cs.length fcc):=by rw[World.cell?_of_block (w:=w) (F3.low fb hfb)];exact k3
 obtain⟨cb',e2',_,_,hcf3,hcell3⟩:=x3.1.cb (by simp);rw[e2] at e2';injection e2' with e2';injection e2' with e2';subst e2';obtain⟨n0,n1,n2⟩:=hcell3 bs.length (fn,pc+1,base) (by simp);simp only at n0 n1 n2;clear hcell3 x3 F3 r2 r3 hW2 hW3 l0 l1 l2 l3 l4 m0 m1 m2 m3 m4 v0 v1 vj0 gw c0 c1 c2 c3 c4 zf;have HSt:=zh ((zu X3).setAt e2 q)
 go_wp2_with fail
 rw[← zu HW3];go_ret;exact⟨rfl,(zu HSt).1,(zu HF3).trans (zu HSt).2⟩
theorem st_pop (fns:List KF) (f:KF) {bs:List (Nat × Nat × Nat)} {fn pc base:Nat} (a b:Int) (hf:fns[fn]? = some f) (hi:f.code[pc]? = some ⟨4,a,b⟩) (hfl:h.fl=fns.length) (hp:RepP w (fun b=>b < h.L) h.fa fns) (x:SB h w (bs++[(fn,pc,base)]) ads fu ne evs d) (hbs:bs.length≤1000000) (hpc:pc≤1000000) (us:List Addr) (ad:Addr) (hads:ads=us++[ad]) (hn:us.length≤1000000):Calls Tryz.prog 23 #[.pointer (some ⟨h.g,0,none⟩)] w fun e w'=>e = .returned (.int .i64 0)∧SB h w' (bs++[(fn,pc+1,base)]) us fu ne evs d∧SvF5 h.L w w':=by
 obtain⟨c0,c1,c2,c3,c4,zf⟩:=x.cells;obtain⟨fb,fo,fca,fcc,fka,fkc,e1,hfb,k0,k1,k2,k3,k4,hcs,hcd⟩:=hp.at hf;obtain⟨ib,io,e3,hib,i0,i1,i2⟩:=hcd.at hi;subst e3;obtain⟨cb,e2,hcc,hcB,hcf,hcell⟩:=x.cb (by simp);obtain⟨j0,j1,j2⟩:=hcell bs.length (fn,pc,base) (by simp);simp only[List.length_append,List.length_cons,List.length_nil] at c1 hcc j0 j1 j2;rw[e2] at c1;rw[e1,hfl] at c0;have hfn:(fn:Int) < (fns.length:Int):=by have:=(List.getElem?_eq_some_iff.1 hf).1;omega
 have hpc2:(pc:Int) < (f.code.length:Int):=by have:=(List.getElem?_eq_some_iff.1 hi).1;omega
 have hwb:IntKind.i64.wrap (bs.length:Int)=(bs.length:Int):=by rw[IntKind.wrap_i64];omega
 have hbl:(bs.length:Int) < (bs.length:Int)+1:=by omega
 have hL:=x.ltL;have hg:=x.lt;have hcbw:=(x.oc.lt cb (by rw[e2];rfl)).2;have HX:=zh x;have HCS:=zh hcs;have gw:∀ {a:Addr} {u:Value},w.cell? a=some u→∀ v:RGw w,v.w.cell? a=some u:=fun h v=>v.h.cell h;have v0:=gw c0;have v1:=gw c1;have vj0:=gw j0;have hne:Nonempty (RGw w):=⟨⟨w,Ext.refl _⟩⟩;subst hads;clear x hp hf hi hcd hcell
 go_enter Tryz.func23,Tryz.ntmps23
 go_wp2_with fail
 refine wp_region_rx (W:=w) (by kernel_rfl) (by kernel_rfl) (Ext.refl _) ?_
 repeat (go_big_quiet_step (fail))
 refine wpQuiet_nil ?_;rintro w1 ⟨⟨_,hx1⟩,rfl⟩;have X1:=zh hx1;clear hx1
 go_wp2_with fail
 refine wp_region_rx (W:=w) (by kernel_rfl) (by kernel_rfl) (zu X1) ?_
 repeat (go_big_quiet_step (fail))
 refine wpQuiet_nil ?_;rintro w2 ⟨⟨_,hx2⟩,rfl⟩;have X2:=zh hx2;clear hx2;have l0:=(zu X2).cell k4;have l1:=(zu X2).cell j1;have l2:=(zu X2).cell i0;have l3:=(zu X2).cell i1;have l4:=(zu X2).cell i2;have hs2:=(zu X2).size;have m0:=fun ob=>(Ext.alloc w2 ob).cell l0;have m1:=fun ob=>(Ext.alloc w2 ob).cell l1;have m2:=fun ob=>(Ext.alloc w2 ob).cell l2;have m3:=fun ob=>(Ext.alloc w2 ob).cell l3;have m4:=fun ob=>(Ext.alloc w2 ob).cell l4
 go_wp2_with fail
 refine wp_oneS ?_;apply Exists.intro;apply Exists.intro;apply And.intro
 ·go_region_law (first | fail)
  all_goals exact nrm_outW ⟨rfl,rfl⟩
 obtain⟨W2,hW2⟩:∃ W2,W2=(w2.alloc (Obj.cells #[.int .i64 4,.int .i64 a,.int .i64 b] 128)).drew:=⟨_,rfl⟩;have Y2:Ext w W2:=by rw[hW2];exact(zu X2).trans (Ext.drew (Ext.alloc _ _))
 have s2:W2.heap.size=w2.heap.size+1:=by rw[hW2];simp
 have r2:W2.heap[w2.heap.size]? = some (.cells #[.int .i64 4,.int .i64 a,.int .i64 b] 128 (0,0)):=by rw[hW2];exact Go.heap_alloc_new w2 _
 rw[← hW2];have x3:=((zu HX).ext Y2).setAt e2 (pc+1);have epc:((pc+1:Nat):Int)=(pc:Int)+1:=by omega
 rw[epc] at x3;have p1:=Y2.cell j1;have pf:W2.frozen? ⟨cb,bs.length * 3+1,none⟩=false:=((((zu HX).ext Y2).cb (by simp)).elim (fun c hc=>by
  have e:=hc.1;rw[e2] at e;injection e with e;injection e with e;subst e;exact hc.2.2.2.1 _))
 obtain⟨W3,hW3⟩:∃ W3,W3=W2.setCell ⟨cb,bs.length * 3+1,none⟩ (.int .i64 ((pc:Int)+1)):=⟨_,rfl⟩;rw[← hW3] at x3;have hcb2:w2.heap.size≠cb:=by omega
 have r3:W3.heap[w2.heap.size]? = some (.cells #[.int .i64 4,.int .i64 a,.int .i64 b] 128 (0,0)):=by rw[hW3,Below.heap_setCell _ _ _ _ hcb2];exact r2
 have t0:W3.cell? ⟨w2.heap.size,0,none⟩=some (.int .i64 4):=zr r3 0 rfl;have t1:W3.cell? ⟨w2.heap.size,1,none⟩=some (.int .i64 a):=zr r3 1 rfl;have t2:W3.cell? ⟨w2.heap.size,2,none⟩=some (.int .i64 b):=zr r3 2 rfl;have q0:W2.cell? ⟨w2.heap.size,0,none⟩=some (.int .i64 4):=zr r2 0 rfl;have F3:SvF5 h.L w W3:=(SvF5.of hL Y2).trans x3.2;have X3:=zh x3.1;have HF3:=zh F3;have HR3:=zh r3;have HW3:=zh hW3;have q1:W2.cell? ⟨w2.heap.size,1,none⟩=some (.int .i64 a):=zr r2 1 rfl;have q2:W2.cell? ⟨w2.heap.size,2,none⟩=some (.int .i64 b):=zr r2 2 rfl;obtain⟨g0,g1,g2,g3,g4,gf⟩:=x3.1.cells;simp only[List.length_append,List.length_cons,List.length_nil] at g1;rw[e1,hfl] at g0;rw[e2] at g1
 have f3:W3.cell? ⟨fb,fo+fn * 5+3,none⟩=some (.slice fca f.cs.length fcc):=by rw[World.cell?_of_block (w:=w) (F3.low fb hfb)];exact k3
 obtain⟨cb',e2',_,_,hcf3,hcell3⟩:=x3.1.cb (by simp);rw[e2] at e2';injection e2' with e2';injection e2' with e2';subst e2';obtain⟨n0,n1,n2⟩:=hcell3 bs.length (fn,pc+1,base) (by simp);simp only at n0 n1 n2;clear hcell3 x3 F3 r2 r3 hW2 hW3 l0 l1 l2 l3 l4 m0 m1 m2 m3 m4 v0 v1 vj0 gw c0 c1 c2 c3 c4 zf;have HPo:=zh (pop_v (zu X3) hn)
 go_wp2_with (go_at_call 26;rw[← zu HW3];refine Calls.mono (zu HPo) ?_;rintro e w5 ⟨rfl,hs,hf⟩;have HS5:=zh hs;have HF5:=zh hf;clear hs hf)
 go_ret;exact⟨rfl,zu HS5,(zu HF3).trans (zu HF5)⟩
end V
namespace V
variable {w w' w2:World} {h:SHd} {cs:List (Nat × Nat × Nat)} {ads:List Addr} {fu:Int} {ne:Nat} {evs:List Value} {d:SAd}
theorem st_const (fns:List KF) (f:KF) {bs:List (Nat × Nat × Nat)} {fn pc base:Nat} (a b:Int) (hf:fns[fn]? = some f) (hi:f.code[pc]? = some ⟨1,a,b⟩) (hfl:h.fl=fns.length) (hp:RepP w (fun b=>b < h.L) h.fa fns) (x:SB h w (bs++[(fn,pc,base)]) ads fu ne evs d) (hbs:bs.length≤1000000) (hpc:pc≤1000000) (q:Nat) (hq:a=(q:Int)) (v:PV) (hv:f.cs[q]? = some v) (hn:ads.length≤1000000):Calls Tryz.prog 23 #[.pointer (some ⟨h.g,0,none⟩)] w fun e w'=>e = .returned (.int .i64 0)∧(∃ ad va vc,SB h w' (bs++[(fn,pc+1,base)]) (ads++[ad]) fu ne evs { d with va:=va,vc:=vc }∧PtV h.L w' ad v)∧SvF5 h.L w w':=by
 obtain⟨c0,c1,c2,c3,c4,zf⟩:=x.cells;obtain⟨fb,fo,fca,fcc,fka,fkc,e1,hfb,k0,k1,k2,k3,k4,hcs,hcd⟩:=hp.at hf;obtain⟨ib,io,e3,hib,i0,i1,i2⟩:=hcd.at hi;subst e3;obtain⟨cb,e2,hcc,hcB,hcf,hcell⟩:=x.cb (by simp);obtain⟨j0,j1,j2⟩:=hcell bs.length (fn,pc,base) (by simp);simp only[List.length_append,List.length_cons,List.length_nil] at c1 hcc j0 j1 j2;rw[e2] at c1;rw[e1,hfl] at c0;have hfn:(fn:Int) < (fns.length:Int):=by have:=(List.getElem?_eq_some_iff.1 hf).1;omega
 have hpc2:(pc:Int) < (f.code.length:Int):=by have:=(List.getElem?_eq_some_iff.1 hi).1;omega
 have hwb:IntKind.i64.wrap (bs.length:Int)=(bs.length:Int):=by rw[IntKind.wrap_i64];omega
 have hbl:(bs.length:Int) < (bs.length:Int)+1:=by omega
 have hL:=x.ltL;have hg:=x.lt;have hcbw:=(x.oc.lt cb (by rw[e2];rfl)).2;have HX:=zh x;have HCS:=zh hcs;have gw:∀ {a:Addr} {u:Value},w.cell? a=some u→∀ v:RGw w,v.w.cell? a=some u:=fun h v=>v.h.cell h;have v0:=gw c0;have v1:=gw c1;have vj0:=gw j0;have hne:Nonempty (RGw w):=⟨⟨w,Ext.refl _⟩⟩;subst hq;obtain⟨kb,ko,ka5,kcap,e5,hEl⟩:=hcs.get q v hv;subst e5;have HPt:Hd (PtV h.L w ⟨kb,ko+q * 5,none⟩ v):=⟨kb,_,ka5,kcap,rfl,hEl.to (fun b hb=>⟨⟨by omega,Or.inl hb⟩,rfl⟩)⟩;have hqlt:(q:Int) < (f.cs.length:Int):=by have:=(List.getElem?_eq_some_iff.1 hv).1;omega
 clear hEl hcs hv;clear x hp hf hi hcd hcell
 go_enter Tryz.func23,Tryz.ntmps23
 go_wp2_with fail
 refine wp_region_rx (W:=w) (by kernel_rfl) (by kernel_rfl) (Ext.refl _) ?_
 repeat (go_big_quiet_step (fail))
 refine wpQuiet_nil ?_;rintro w1 ⟨⟨_,hx1⟩,rfl⟩;have X1:=zh hx1;clear hx1
 go_wp2_with fail
 refine wp_region_rx (W:=w) (by kernel_rfl) (by kernel_rfl) (zu X1) ?_
 repeat (go_big_quiet_step (fail))
 refine wpQuiet_nil ?_;rintro w2 ⟨⟨_,hx2⟩,rfl⟩;have X2:=zh hx2;clear hx2;have l0:=(zu X2).cell k4;have l1:=(zu X2).cell j1;have l2:=(zu X2).cell i0;have l3:=(zu X2).cell i1;have l4:=(zu X2).cell i2;have hs2:=(zu X2).size;have m0:=fun ob=>(Ext.alloc w2 ob).cell l0;have m1:=fun ob=>(Ext.alloc w2 ob).cell l1;have m2:=fun ob=>(Ext.alloc w2 ob).cell l2;have m3:=fun ob=>(Ext.alloc w2 ob).cell l3;have m4:=fun ob=>(Ext.alloc w2 ob).cell l4
 go_wp2_with fail
 refine wp_oneS ?_;apply Exists.intro;apply Exists.intro;apply And.intro
 ·go_region_law (first | fail)
  all_goals exact nrm_outW ⟨rfl,rfl⟩
 obtain⟨W2,hW2⟩:∃ W2,W2=(w2.alloc (Obj.cells #[.int .i64 1,.int .i64 (q:Int),.int .i64 b] 128)).drew:=⟨_,rfl⟩;have Y2:Ext w W2:=by rw[hW2];exact(zu X2).trans (Ext.drew (Ext.alloc _ _))
 have s2:W2.heap.size=w2.heap.size+1:=by rw[hW2];simp
 have r2:W2.heap[w2.heap.size]? = some (.cells #[.int .i64 1,.int .i64 (q:Int),.int .i64 b] 128 (0,0)):=by rw[hW2];exact Go.heap_alloc_new w2 _
 rw[← hW2];have x3:=((zu HX).ext Y2).setAt e2 (pc+1);have epc:((pc+1:Nat):Int)=(pc:Int)+1:=by omega
 rw[epc] at x3;have p1:=Y2.cell j1;have pf:W2.frozen? ⟨cb,bs.length * 3+1,none⟩=false:=((((zu HX).ext Y2).cb (by simp)).elim (fun c hc=>by
  have e:=hc.1;rw[e2] at e;injection e with e;injection e with e;subst e;exact hc.2.2.2.1 _))
 obtain⟨W3,hW3⟩:∃ W3,W3=W2.setCell ⟨cb,bs.length * 3+1,none⟩ (.int .i64 ((pc:Int)+1)):=⟨_,rfl⟩;rw[← hW3] at x3;have hcb2:w2.heap.size≠cb:=by omega
 have r3:W3.heap[w2.heap.size]? = some (.cells #[.int .i64 1,.int .i64 (q:Int),.int .i64 b] 128 (0,0)):=by rw[hW3,Below.heap_setCell _ _ _ _ hcb2];exact r2
 have t0:W3.cell? ⟨w2.heap.size,0,none⟩=some (.int .i64 1):=zr r3 0 rfl;have t1:W3.cell? ⟨w2.heap.size,1,none⟩=some (.int .i64 (q:Int)):=zr r3 1 rfl;have t2:W3.cell? ⟨w2.heap.size,2,none⟩=some (.int .i64 b):=zr r3 2 rfl;have q0:W2.cell? ⟨w2.heap.size,0,none⟩=some (.int .i64 1):=zr r2 0 rfl;have F3:SvF5 h.L w W3:=(SvF5.of hL Y2).trans x3.2;have X3:=zh x3.1;have HF3:=zh F3;have HR3:=zh r3;have HW3:=zh hW3;have q1:W2.cell? ⟨w2.heap.size,1,none⟩=some (.int .i64 (q:Int)):=zr r2 1 rfl;have q2:W2.cell? ⟨w2.heap.size,2,none⟩=some (.int .i64 b):=zr r2 2 rfl;obtain⟨g0,g1,g2,g3,g4,gf⟩:=x3.1.cells;simp only[List.length_append,List.length_cons,List.length_nil] at g1;rw[e1,hfl] at g0;rw[e2] at g1
 have f3:W3.cell? ⟨fb,fo+fn * 5+3,none⟩=some (.slice (some ⟨kb,ko,none⟩) f.cs.length fcc):=by rw[World.cell?_of_block (w:=w) (F3.low fb hfb)];exact k3
 obtain⟨cb',e2',_,_,hcf3,hcell3⟩:=x3.1.cb (by simp);rw[e2] at e2';injection e2' with e2';injection e2' with e2';subst e2';obtain⟨n0,n1,n2⟩:=hcell3 bs.length (fn,pc+1,base) (by simp);simp only at n0 n1 n2;clear hcell3 x3 F3 r2 r3 hW2 hW3 l0 l1 l2 l3 l4 m0 m1 m2 m3 m4 v0 v1 vj0 gw c0 c1 c2 c3 c4 zf;have HPu:=zh (push_v ((zu X3).ext (Ext.drew (Ext.refl W3))) (by omega) ⟨kb,ko+q * 5,none⟩);have hL3:=(zu X3).ltL
 go_wp2_with fail
 rw[← zu HW3]
 go_still_tail 8,(by kernel_rfl)
 change wpList _ _ _ _ _ (World.drew W3)
 go_wp2_with (go_at_call 53;refine Calls.mono (zu HPu) ?_;rintro e w5 ⟨rfl,⟨va,vc,hs⟩,hf⟩;have HS5:=zh hs;have HF5:=zh hf;clear hs hf)
 go_ret;have FF:=((zu HF3).trans (SvF5.of hL3 (Ext.drew (Ext.refl W3)))).trans (zu HF5);exact⟨rfl,⟨_,_,_,zu HS5,(zu HPt).on FF⟩,FF⟩
theorem enterPush (v u:Value) (w:World):(callFunc 53 #[v,u]).run Tryz.prog w = .ok (.enter 53 #[v,u]) w:=by kernel_rfl
theorem st_load (fns:List KF) (f:KF) {bs:List (Nat × Nat × Nat)} {fn pc base:Nat} (a b:Int) (hf:fns[fn]? = some f) (hi:f.code[pc]? = some ⟨2,a,b⟩) (hfl:h.fl=fns.length) (hp:RepP w (fun b=>b < h.L) h.fa fns) (x:SB h w (bs++[(fn,pc,base)]) ads fu ne evs d) (hbs:bs.length≤1000000) (hpc:pc≤1000000) (q:Nat) (hq:a=(q:Int)) (ad:Addr) (had:ads[base+q]? = some ad) (hn:ads.length≤1000000):Calls Tryz.prog 23 #[.pointer (some ⟨h.g,0,none⟩)] w fun e w'=>e = .returned (.int .i64 0)∧(∃ va vc,SB h w' (bs++[(fn,pc+1,base)]) (ads++[ad]) fu ne evs { d with va:=va,vc:=vc })∧SvF5 h.L w w':=by
 obtain⟨c0,c1,c2,c3,c4,zf⟩:=x.cells;obtain⟨fb,fo,fca,fcc,fka,fkc,e1,hfb,k0,k1,k2,k3,k4,hcs,hcd⟩:=hp.at hf;obtain⟨ib,io,e3,hib,i0,i1,i2⟩:=hcd.at hi;subst e3;obtain⟨cb,e2,hcc,hcB,hcf,hcell⟩:=x.cb (by simp);obtain⟨j0,j1,j2⟩:=hcell bs.length (fn,pc,base) (by simp);simp only[List.length_append,List.length_cons,List.length_nil] at c1 hcc j0 j1 j2;rw[e2] at c1;rw[e1,hfl] at c0;have hfn:(fn:Int) < (fns.length:Int):=by have:=(List.getElem?_eq_some_iff.1 hf).1;omega
 have hpc2:(pc:Int) < (f.code.length:Int):=by have:=(List.getElem?_eq_some_iff.1 hi).1;omega
 have hwb:IntKind.i64.wrap (bs.length:Int)=(bs.length:Int):=by rw[IntKind.wrap_i64];omega
 have hbl:(bs.length:Int) < (bs.length:Int)+1:=by omega
 have hL:=x.ltL;have hg:=x.lt;have hcbw:=(x.oc.lt cb (by rw[e2];rfl)).2;have HX:=zh x;have HCS:=zh hcs;have gw:∀ {a:Addr} {u:Value},w.cell? a=some u→∀ v:RGw w,v.w.cell? a=some u:=fun h v=>v.h.cell h;have v0:=gw c0;have v1:=gw c1;have vj0:=gw j0;have hne:Nonempty (RGw w):=⟨⟨w,Ext.refl _⟩⟩;subst hq;have hbq:=(List.getElem?_eq_some_iff.1 had).1;clear x hp hf hi hcd hcell
 go_enter Tryz.func23,Tryz.ntmps23
 go_wp2_with fail
 refine wp_region_rx (W:=w) (by kernel_rfl) (by kernel_rfl) (Ext.refl _) ?_
 repeat (go_big_quiet_step (fail))
 refine wpQuiet_nil ?_;rintro w1 ⟨⟨_,hx1⟩,rfl⟩;have X1:=zh hx1;clear hx1
 go_wp2_with fail
 refine wp_region_rx (W:=w) (by kernel_rfl) (by kernel_rfl) (zu X1) ?_
 repeat (go_big_quiet_step (fail))
 refine wpQuiet_nil ?_;rintro w2 ⟨⟨_,hx2⟩,rfl⟩;have X2:=zh hx2;clear hx2;have l0:=(zu X2).cell k4;have l1:=(zu X2).cell j1;have l2:=(zu X2).cell i0;have l3:=(zu X2).cell i1;have l4:=(zu X2).cell i2;have hs2:=(zu X2).size;have m0:=fun ob=>(Ext.alloc w2 ob).cell l0;have m1:=fun ob=>(Ext.alloc w2 ob).cell l1;have m2:=fun ob=>(Ext.alloc w2 ob).cell l2;have m3:=fun ob=>(Ext.alloc w2 ob).cell l3;have m4:=fun ob=>(Ext.alloc w2 ob).cell l4
 go_wp2_with fail
 refine wp_oneS ?_;apply Exists.intro;apply Exists.intro;apply And.intro
 ·go_region_law (first | fail)
  all_goals exact nrm_outW ⟨rfl,rfl⟩
 obtain⟨W2,hW2⟩:∃ W2,W2=(w2.alloc (Obj.cells #[.int .i64 2,.int .i64 (q:Int),.int .i64 b] 128)).drew:=⟨_,rfl⟩;have Y2:Ext w W2:=by rw[hW2];exact(zu X2).trans (Ext.drew (Ext.alloc _ _))
 have s2:W2.heap.size=w2.heap.size+1:=by rw[hW2];simp
 have r2:W2.heap[w2.heap.size]? = some (.cells #[.int .i64 2,.int .i64 (q:Int),.int .i64 b] 128 (0,0)):=by rw[hW2];exact Go.heap_alloc_new w2 _
 rw[← hW2];have x3:=((zu HX).ext Y2).setAt e2 (pc+1);have epc:((pc+1:Nat):Int)=(pc:Int)+1:=by omega
 rw[epc] at x3;have p1:=Y2.cell j1;have pf:W2.frozen? ⟨cb,bs.length * 3+1,none⟩=false:=((((zu HX).ext Y2).cb (by simp)).elim (fun c hc=>by
  have e:=hc.1;rw[e2] at e;injection e with e;injection e with e;subst e;exact hc.2.2.2.1 _))
 obtain⟨W3,hW3⟩:∃ W3,W3=W2.setCell ⟨cb,bs.length * 3+1,none⟩ (.int .i64 ((pc:Int)+1)):=⟨_,rfl⟩;rw[← hW3] at x3;have hcb2:w2.heap.size≠cb:=by omega
 have r3:W3.heap[w2.heap.size]? = some (.cells #[.int .i64 2,.int .i64 (q:Int),.int .i64 b] 128 (0,0)):=by rw[hW3,Below.heap_setCell _ _ _ _ hcb2];exact r2
 have t0:W3.cell? ⟨w2.heap.size,0,none⟩=some (.int .i64 2):=zr r3 0 rfl;have t1:W3.cell? ⟨w2.heap.size,1,none⟩=some (.int .i64 (q:Int)):=zr r3 1 rfl;have t2:W3.cell? ⟨w2.heap.size,2,none⟩=some (.int .i64 b):=zr r3 2 rfl;have q0:W2.cell? ⟨w2.heap.size,0,none⟩=some (.int .i64 2):=zr r2 0 rfl;have F3:SvF5 h.L w W3:=(SvF5.of hL Y2).trans x3.2;have X3:=zh x3.1;have HF3:=zh F3;have HR3:=zh r3;have HW3:=zh hW3;have q1:W2.cell? ⟨w2.heap.size,1,none⟩=some (.int .i64 (q:Int)):=zr r2 1 rfl;have q2:W2.cell? ⟨w2.heap.size,2,none⟩=some (.int .i64 b):=zr r2 2 rfl;obtain⟨g0,g1,g2,g3,g4,gf⟩:=x3.1.cells;simp only[List.length_append,List.length_cons,List.length_nil] at g1;rw[e1,hfl] at g0;rw[e2] at g1
 have f3:W3.cell? ⟨fb,fo+fn * 5+3,none⟩=some (.slice fca f.cs.length fcc):=by rw[World.cell?_of_block (w:=w) (F3.low fb hfb)];exact k3
 obtain⟨cb',e2',_,_,hcf3,hcell3⟩:=x3.1.cb (by simp);rw[e2] at e2';injection e2' with e2';injection e2' with e2';subst e2';obtain⟨n0,n1,n2⟩:=hcell3 bs.length (fn,pc+1,base) (by simp);simp only at n0 n1 n2;clear hcell3 x3 F3 r2 r3 hW2 hW3 l0 l1 l2 l3 l4 m0 m1 m2 m3 m4 v0 v1 vj0 gw c0 c1 c2 c3 c4 zf;have HPu:=zh (push_v ((zu X3).ext (Ext.drew (Ext.refl W3))) (by omega) ad);have hL3:=(zu X3).ltL;obtain⟨vb,e6,_,_,_,hv6⟩:=(zu X3).vb (by omega);have n5:=hv6 _ _ had;rw[e6] at g2;have hwq:IntKind.i64.wrap ((base:Int)+(q:Int))=(base:Int)+(q:Int):=by rw[IntKind.wrap_i64];omega
 have hbq2:(base:Int)+(q:Int) < (ads.length:Int):=by omega
 have hb0:0≤(base:Int)+(q:Int):=by omega
 have htn:((base:Int)+(q:Int)).toNat=base+q:=by omega
 clear hv6 had
 go_wp2_with fail
 rw[← zu HW3];refine wp_nrm ?_
 go_region_law (first
  | (refine step_call_two rfl 53 (.tmp 62) (.tmp 75) 95 53 rfl _ _ (by simp[Act.eval,Act.put]) (by simp[Act.eval,Act.put]) (enterPush _ _ _) (Calls.mono (zu HPu) ?_);rintro e w5 ⟨rfl,⟨va,vc,hs⟩,hf⟩;refine⟨_,rfl,?_⟩;have HS5:=zh hs;have HF5:=zh hf;clear hs hf))
 all_goals
  refine nrm_outW ?_
  go_wp2_with fail
  go_ret;exact⟨rfl,⟨_,_,zu HS5⟩,((zu HF3).trans (SvF5.of hL3 (Ext.drew (Ext.refl W3)))).trans (zu HF5)⟩
end V
end Go.Proofs.YtjnpehohialmbaaGreat
