/- Through a tree. · The parameters are the first locals. · A function: what its names mean. · The functions' numbers. -/
import Derived.Test.YtgkdmgndebifiaaGreatDoorZd36
set_option linter.unusedSimpArgs false
set_option linter.unusedVariables false
set_option maxRecDepth 10000
namespace Go.Proofs.YtgkdmgndebifiaaGreatDoor
open Go.RowKit Go.Maps
theorem WS.c8 {w:World} {B P M:Nat} {fv:Value} {col:Nat → Nat} {st:WK} (h:WS w B P M fv col st):w.cell? ⟨B,8,none⟩ = some (.int .i64 st.e):=by
 obtain ⟨lv,oa,ba,sa,ca,oc,bc,sc,cc,hB,hP,hm,h2,h3,h4,h5⟩:=h.ex
 exact rowC hB 8 rfl
theorem ThI.top {B P M:Nat} {fv:Value} {nm:List (ByteArray × Int)} {fs:List PFn} {w0 wr:World} {col0 col:Nat → Nat} {stF st:WK} {x:OpN} {rest:List OpN} {pa:Option Addr} {pc f:Nat} (h:ThI B P M fv nm fs w0 wr col0 col stF st (x :: rest) pa pc f) :
  ∃ g,pa = some ⟨g,0,none⟩ ∧ rest.length + 1 ≤ pc ∧ wr.cell? ⟨g,rest.length * 2,none⟩ = some (.pointer (some ⟨x.b,x.o,none⟩)) ∧ wr.cell? ⟨g,rest.length * 2 + 1,none⟩ = some (.int .i64 (x.d:Int)) ∧ (∀ i,wr.frozen? ⟨g,i,none⟩ = false) ∧ g < wr.heap.size:=by
 have ho:=h.own
 obtain ⟨h1,⟨e,h0⟩ | ⟨g,cap2,cur,e,hb,hg,hn,_⟩⟩:=id ho
 ·simp at h0
 ·injection e with e1 e2 e3
  subst e1 e3
  have hc:=cells_own ho
  rw [flat_last] at hc
  have hl:(rest.reverse.flatMap opC).length = rest.length * 2:=flat_rlen rest
  refine ⟨g,rfl,hn,?_,?_,rowF hg,(Array.getElem?_eq_some_iff.1 hg).1⟩
  ·have:=hc (rest.length * 2) _ (by rw [List.getElem?_append_right (by omega),hl,Nat.sub_self];rfl)
   rw [Nat.zero_add] at this
   exact this
  ·have:=hc (rest.length * 2 + 1) _ (by rw [List.getElem?_append_right (by omega),hl,Nat.add_sub_cancel_left];rfl)
   rw [Nat.zero_add] at this
   exact this
set_option maxHeartbeats 2000000 in
theorem thr_w (B P M:Nat) (fv:Value) (col0:Nat → Nat) (st0:WK) (nm:List (ByteArray × Int)) (fs:List PFn) (p:PN) (nb no f n:Nat) (w:World) (stF:WK) (h:WS w B P M fv col0 st0) (hC:Ctx w col0 M fv nm fs) (hN:NodeAt w col0 p nb no) (hs:small p.s = true) (hb:Bd st0 n) (hn:n + f + 2 ≤ 9000000) (heq:thr nm fs f [(p,0)] (st0.bgn p) = some stF) :
  Calls Tryz.prog 40 #[.pointer (some ⟨B,0,none⟩),.pointer (some ⟨nb,no,none⟩)] w (Walks B P M fv col0 w stF):=by
 have HB:=hide (fun ob => begin_w B P M fv col0 st0 p nb no n (w.alloc ob) (h.ext (Ext.alloc _ _)) (hN.on (Wk.ext (Ext.alloc _ _))) hs hb (by omega))
 have hfr:=h.fresh w.heap.size (Nat.le_refl _)
 have HC:=hide hC
 have HN:=hide hN
 have HBD:=hide (hb.bgn p)
 have HE:=hide heq
 have HSM:=hide hs
 obtain ⟨i0,hi,hz0,hz1,hz2⟩:=info_parts infoO
 have HI:=hide hi
 have Z0:=hide hz0
 have Z1:=hide hz1
 have Z2:=hide hz2
 clear hi hz0 hz1 hz2 h hC hN hb heq hs
 go_enter Tryz.func40,Tryz.ntmps40
 go_wp2_with (go_at_call 53;refine Calls.mono (unhide HB _) ?_;rintro e w2 ⟨rfl,col2,a,b⟩;have A:=hide a;have B2:=hide b;clear a b)
 have TI:Hd (ThI B P M fv nm fs w w2 col0 col2 stF (st0.bgn p) [OpN.mk p 0 nb no] (some ⟨w.heap.size,0,none⟩) 1 f):=by
  have hk:=(unhide B2).keep w.heap.size (by simp) hfr
  have hc2:=(unhide B2).same w.heap.size (by simp)
  refine ⟨unhide A,(Wk.ext (Ext.alloc _ _)).trans (unhide B2),⟨rfl,Or.inr ⟨w.heap.size,1,_,rfl,Nat.zero_le _,hk.trans (Go.heap_alloc_new w _),Nat.le_refl _,by decide,rfl,rfl⟩⟩,fun k e => ?_,fun x hx => ?_,unhide HE,⟨n + 1,unhide HBD,by omega⟩,by simp;omega⟩
  ·simp only [Value.ownBlock,Option.some.injEq] at e
   subst e
   exact ⟨Nat.le_refl _,hc2.trans hfr⟩
  ·rw [List.mem_singleton.1 hx]
   exact ⟨unhide HN,unhide HSM,Nat.zero_le _,by show 0 + f ≤ _;omega⟩
 clear A B2 HB HE HBD
 go_wp2_with fail
 go_loopg [4] f (fun k t wr => ∃ (col:Nat → Nat) (st:WK) (stk:List OpN) (pa:Option Addr) (pc:Nat),t = .slice pa stk.length pc ∧ Hd (ThI B P M fv nm fs w wr col0 col stF st stk pa pc k))
 case atStart => exact ⟨col2,_,_,_,_,rfl,TI⟩
 case round =>
  clear TI
  obtain ⟨col,st,stk,pa,pc,rfl,hI⟩:=hrel
  cases gk with
  | zero => have:=(unhide hI).eq;rw [thr] at this;cases this
  | succ f1 =>
  have c8:=(unhide hI).ws.c8
  cases stk with
  | nil =>
   have hF:Hd (stF = st):=by have:=(unhide hI).eq;rw [List.map_nil,thr] at this;injection this with this;exact this.symm
   go_wp2_with fail
   go_end0
   rw [unhide hF]
   exact (unhide hI).ws.up (unhide hI).wk
  | cons x rest =>
   obtain ⟨g,rfl,hpc,q0,q1,qz,hgl⟩:=(unhide hI).top
   obtain ⟨hNd,hsx,hdl,hdf⟩:=(unhide hI).nodes x (List.mem_cons_self ..)
   have hlen:=(unhide hI).len
   have hE:=(unhide hI).eq
   rw [List.map_cons,show opP x = (x.p,x.d) from rfl,thr] at hE
   have hRl:(x :: rest).length = rest.length + 1:=rfl
   rw [hRl] at hlen ⊢
   obtain ⟨R,hR⟩:∃ R,R = rest.length:=⟨_,rfl⟩
   rw [← hR] at hpc q0 q1 hlen ⊢
   have HRl:=hide hR
   clear hR hRl
   by_cases he:st.e = 0
   ·have he2:(st.e == 0) = true:=by simp [he]
    rw [if_neg (by simp [he])] at hE
    have hNw:=hNd.on (unhide hI).wk
    have hbdx:=(unhide hI).bd
    obtain ⟨nn,hbn,hnn⟩:=hbdx
    have hCw:=(unhide HC).on (unhide hI).wk
    have D:=hide (show Ext wr wr.drew from Ext.drew (Ext.refl _))
    by_cases hd:x.d = x.p.l.length
    ·rw [if_pos hd] at hE
     cases hfin:st.fin nm fs x.p with
     | none => rw [hfin] at hE;cases hE
     | some st2 =>
     rw [hfin] at hE
     simp only at hE
     have HEnd:=hide (end_w B P M fv col st nm fs x.p x.b x.o nn wr.drew st2 ((unhide hI).ws.ext (unhide D)) (hCw.on (Wk.ext (unhide D))) (hNw.on (Wk.ext (unhide D))) hsx hbn (by omega) hfin)
     have HB2:=hide (hbn.fin hsx hfin)
     obtain ⟨na,ncap,n0,n2,n4,-,-⟩:=hNw.ex
     have hdd:((x.d:Int) == (x.p.l.length:Int)) = true:=by simp [hd]
     have HE:=hide hE
     clear hNw hNd hfin hE hCw hd hdl he n0 n2
     have HX:=hide (show x = x from rfl)
     obtain ⟨xp,xd,xb,xo⟩:=x
     simp only at q0 q1 n4 hdd
     generalize xp.l.length = XL at *
     go_wp2_with fail
     refine wp_nrm ?_
     first | skip;go_region | fail
     all_goals
      simp only [Nrm]
      go_wp2_with (go_at_call 54;refine Calls.mono (unhide HEnd) ?_;rintro e w1 ⟨rfl,col1,a,b⟩;have A:=hide a;have B2:=hide b;clear a b)
      go_roundg f1
      case measure => omega
      case rel =>
       have hT:=(unhide hI).ext (unhide D)
       have hR:=unhide HRl
       have ho:=own_prefix (m:=rest.length) hT.own (by simp)
       rw [flat_take] at ho
       obtain ⟨o1,o2⟩:=path_on (base:=w.heap.size) ho (fun k e => hT.hue k e) (unhide B2)
       refine ⟨col1,st2,rest,_,_,by rw [hR],⟨unhide A,hT.wk.trans (unhide B2),o1,o2,fun y hy => ?_,unhide HE,⟨nn + 1,unhide HB2,by omega⟩,by omega⟩⟩
       obtain ⟨y1,y2,y3,y4⟩:=(unhide hI).nodes y (List.mem_cons_of_mem _ hy)
       exact ⟨y1,y2,y3,by omega⟩
    ·rw [if_neg hd] at hE
     cases hq:x.p.l[x.d]? with
     | none => rw [hq] at hE;cases hE
     | some q =>
     rw [hq] at hE
     simp only at hE
     cases hsq:small q.s with
     | false => rw [hsq] at hE;cases hE
     | true =>
     rw [hsq,if_pos rfl] at hE
     obtain ⟨cb,co,ccap,n4w,hcc,hNq⟩:=hNd.child hq
     have n4:wr.cell? ⟨x.b,x.o + 4,none⟩ = some (.slice (some ⟨cb,co,none⟩) x.p.l.length ccap):=by rw [World.cell?_of_block (w:=w) ((unhide hI).wk.keep x.b hNd.lt hNd.hue)];exact n4w
     have hdlt:x.d < x.p.l.length:=by omega
     have hdd:((x.d:Int) == (x.p.l.length:Int)) = false:=by rw [beq_eq_false_iff_ne];omega
     have HNq:=hide hNq
     have HE:=hide hE
     have HO:Hd (∀ (W3:World) (ob:Obj),W3.heap = (wr.setCell ⟨g,R * 2 + 1,none⟩ (.int .i64 ((x.d:Int) + 1))).heap → (W3.alloc ob).ownsRow 0 119 2 (.slice (some ⟨g,0,none⟩) (R + 1) pc) (R + 1) ((OpN.mk x.p (x.d + 1) x.b x.o :: rest).reverse.flatMap opC)):=by
      intro W3 ob e
      have ho:=own_setS (unhide hI).own (rest.length * 2 + 1) (.int .i64 ((x.d:Int) + 1))
      rw [flat_set] at ho
      rw [unhide HRl] at e ⊢
      exact (own_heap ho e).alloc ob
     have HP:Hd (∀ (w6:World) (g' cap':Nat),w6.ownsRow 0 119 2 (.slice (some ⟨g',0,none⟩) (R + 1 + 1) cap') (R + 1 + 1) ((OpN.mk x.p (x.d + 1) x.b x.o :: rest).reverse.flatMap opC ++ [.pointer (some ⟨cb,co + x.d * 5,none⟩),.int .i64 0]) → wr.grownBy w6 (some g) → (some g = some g' ∨ wr.heap.size ≤ g') → _):=fun w6 g' cap' ho g1 hw => (unhide hI).push (y:=OpN.mk q 0 cb (co + x.d * 5)) (by rw [← unhide HRl];exact ho) g1 hw
     have hbq:=hide hbn
     have BG:=hide (fun (w6:World) (hw:WS w6 B P M fv col st) (hk:Wk col0 col w w6) => begin_w B P M fv col st q cb (co + x.d * 5) nn w6 hw ((unhide HNq).on hk) hsq (unhide hbq) (by omega))
     have HB2:=hide (hbn.bgn q)
     clear hNw hNd hE hCw hd hdl he n4w hNq hq hsx
     obtain ⟨xp,xd,xb,xo⟩:=x
     simp only at q0 q1 n4 hdd hdlt HO HP BG hdf
     have hdlt2:xd + 1 ≤ xp.l.length:=hdlt
     have HDL:=hide hdlt2
     clear hdlt2
     obtain ⟨XL,hXL⟩:∃ XL,XL = xp.l.length:=⟨_,rfl⟩
     rw [← hXL] at n4 hdd hdlt hcc
     have hdn1:¬ ((xd:Int) = (XL:Int)):=by omega
     have hdn2:¬ xd = XL:=by omega
     have hdn3:(xd == XL) = false:=by rw [beq_eq_false_iff_ne];exact hdn2
     clear hXL
     go_wp2_with fail
     refine wp_nrm ?_
     first | skip;go_region | fail
     all_goals
      simp only [Nrm]
      go_wp2_with fail
      refine wp_nrm ?_
      first | skip;go_region | fail
      all_goals
       simp only [Nrm]
       go_wp2_with (first
        | (at_builtin;refine wpList_append_where rfl (.tmp 71) (.tmp 74) 120 rfl 0 119 i0 (.agg #[.pointer none,.int .i64 0]) 2 16 Tryz.underlying120 (unhide HI) (unhide Z0) (unhide Z1) (unhide Z2) rfl (by decide) (some ⟨g,0,none⟩) (R + 1) pc _ rfl (unhide HO _ _ ?o1) ⟨wr.heap.size,0,none⟩ 1 1 [.pointer (some ⟨cb,co + xd * 5,none⟩),.int .i64 0] rfl (by decide) rfl ?o2 (one_open _ _) ?c1 ?c2 (Nat.zero_le _) ?_))
       case o1 => rfl
       case o2 =>
        intro j u hu
        have hz:(wr.setCell ⟨g,R * 2 + 1,none⟩ (.int .i64 ((xd:Int) + 1))).heap.size = wr.heap.size:=by simp [World.setCell]
        have h:=cells_new (wr.setCell ⟨g,R * 2 + 1,none⟩ (.int .i64 ((xd:Int) + 1))) #[.pointer (some ⟨cb,co + xd * 5,none⟩),.int .i64 0] 119 j u hu
        rw [hz] at h
        exact h
       case c1 => unfold maxLen;omega
       case c2 => omega
       intro g' cap' w6 ho6 hg6 hw6
       have hg1:wr.grownBy w6 (some g):=((grown_set wr g (R * 2 + 1) (.int .i64 ((xd:Int) + 1))).trans (World.grownBy_alloc _ (.cells #[.pointer (some ⟨cb,co + xd * 5,none⟩),.int .i64 0] 119) _)).trans ⟨hg6.os,hg6.tape,hg6.output,hg6.size,hg6.block⟩
       obtain ⟨p1,p2,p3,p4⟩:=unhide HP w6 g' cap' (by rw [flat_last,List.append_assoc];exact ho6) hg1 (hw6.imp (fun e => e) (fun e => by first | omega | (simp at e;omega)))
       have P1:=hide p1
       have P2:=hide p2
       have P3:=hide p3
       have P4:=hide p4
       clear p1 p2 p3 p4 ho6 hg6 hw6 hg1
       go_wp2_with (go_at_call 53;refine Calls.mono (unhide BG w6 (unhide P1) (unhide P2)) ?_;rintro e w7 ⟨rfl,col7,a,b⟩;have A:=hide a;have B2:=hide b;clear a b)
       go_roundg f1
       case measure => omega
       case rel =>
        obtain ⟨o1,o2⟩:=path_on (base:=w.heap.size) (unhide P3) (unhide P4) (unhide B2)
        have hR:=unhide HRl
        refine ⟨col7,st.bgn q,_,_,_,by rw [hR];rfl,⟨unhide A,(unhide P2).trans (unhide B2),o1,o2,fun y hy => ?_,unhide HE,⟨nn + 1,unhide HB2,by omega⟩,by simp;omega⟩⟩
        rcases List.mem_cons.1 hy with rfl | hy
        ·exact ⟨unhide HNq,hsq,Nat.zero_le _,by show 0 + f1 ≤ _;omega⟩
        rcases List.mem_cons.1 hy with rfl | hy
        ·obtain ⟨y1,y2,y3,y4⟩:=(unhide hI).nodes (OpN.mk xp xd xb xo) (List.mem_cons_self ..)
         exact ⟨y1,y2,unhide HDL,by show xd + 1 + f1 ≤ _;omega⟩
        ·obtain ⟨y1,y2,y3,y4⟩:=(unhide hI).nodes y (List.mem_cons_of_mem _ hy)
         exact ⟨y1,y2,y3,by omega⟩
   ·have he2:(st.e == 0) = false:=by simpa using he
    rw [if_pos he] at hE
    have hF:Hd (stF = st):=by injection hE with hE;exact hE.symm
    clear hE he hNd
    go_wp2_with fail
    go_end0
    rw [unhide hF]
    exact (unhide hI).ws.up (unhide hI).wk
end Go.Proofs.YtgkdmgndebifiaaGreatDoor
namespace Go.Proofs.YtgkdmgndebifiaaGreatDoor
open Go.RowKit Go.Maps
theorem repS_at {w:World} {F:Nat → Prop} {ps:List ByteArray} {a:Option Addr} {j:Nat} {x:ByteArray} (h:RepS w F ps a) (hx:ps[j]? = some x):∃ b off,a = some ⟨b,off,none⟩ ∧ F b ∧ w.cell? ⟨b,off + j,none⟩ = some (.string x):=by
 rcases h with rfl | ⟨b,off,rfl,hb,hc⟩
 ·simp at hx
 ·exact ⟨b,off,rfl,hb,hc j _ (by rw [List.getElem?_map,hx];rfl)⟩
set_option maxHeartbeats 1000000 in
theorem prm_w (B P M:Nat) (fv:Value) (col0:Nat → Nat) (st0:WK) (ps:List ByteArray) (a:Option Addr) (cap n:Nat) (w:World) (h:WS w B P M fv col0 st0) (hr:RepS w (fun k => col0 k = 0 ∧ k < w.heap.size) ps a) (hcap:ps.length ≤ cap) (hsm:∀ x ∈ ps,small x = true) (hb:Bd st0 n) (hn:n + ps.length ≤ 9000000) :
  Calls Tryz.prog 39 #[.pointer (some ⟨B,0,none⟩),.slice a ps.length cap] w (Walks B P M fv col0 w (prm ps st0)):=by
 have HR:=hide hr
 have HSM:=hide hsm
 have TI:Hd (WS w B P M fv col0 st0 ∧ Wk col0 col0 w w ∧ prm (ps.drop 0) st0 = prm ps st0 ∧ Bd st0 (n + 0)):=⟨h,Wk.refl _ _,by rw [List.drop_zero],hb⟩
 clear h hr hb hsm
 go_enter Tryz.func39,Tryz.ntmps39
 go_wp2_with fail
 go_loopw [4] (fun t wr => ∃ (j:Nat) (col:Nat → Nat) (st:WK),t = .int .i64 j ∧ j ≤ ps.length ∧ Hd (WS wr B P M fv col st ∧ Wk col0 col w wr ∧ prm (ps.drop j) st = prm ps st0 ∧ Bd st (n + j))) (fun t _ => ps.length - (intOf t).toNat)
 case atStart => exact ⟨0,col0,st0,rfl,Nat.zero_le _,TI⟩
 case round =>
  clear TI
  obtain ⟨j,col,st,rfl,hj,hI⟩:=hrel
  have c8:=(unhide hI).1.c8
  by_cases hlt:j < ps.length
  ·obtain ⟨x,hx⟩:∃ x,ps[j]? = some x:=⟨_,List.getElem?_eq_getElem hlt⟩
   have hdr:ps.drop j = x :: ps.drop (j + 1):=by rw [List.drop_eq_getElem_cons hlt,(List.getElem?_eq_some_iff.1 hx).2]
   have hq:=(unhide hI).2.2.1
   rw [hdr,prm] at hq
   by_cases he:st.e = 0
   ·have he2:(st.e == 0) = true:=by simp [he]
    rw [if_neg (by simp [he])] at hq
    obtain ⟨b,off,rfl,hbb,hc⟩:=repS_at (unhide HR) hx
    have cx:wr.cell? ⟨b,off + j,none⟩ = some (.string x):=by rw [World.cell?_of_block (w:=w) ((unhide hI).2.1.keep b hbb.2 hbb.1)];exact hc
    have hsx:=unhide HSM x (List.mem_of_getElem? hx)
    have hbd:=(unhide hI).2.2.2
    have HD:=hide (declare_w B P M fv col st x wr (unhide hI).1 hsx hbd.lc (by have:=hbd.ct;omega) (by have:=hbd.od;omega))
    have HB2:=hide (hbd.declare hsx)
    have HQ:=hide hq
    clear hq hx hdr he hbb hc hbd
    go_wp2_with (go_at_call 52;refine Calls.mono (unhide HD) ?_;rintro e w1 ⟨rfl,col1,a,b⟩;have A:=hide a;have B2:=hide b;clear a b)
    go_roundw
    case rel => exact ⟨j + 1,col1,_,by go_num,by omega,⟨unhide A,(unhide hI).2.1.trans (unhide B2),unhide HQ,unhide HB2⟩⟩
    case measure => simp [intOf];omega
   ·have he2:(st.e == 0) = false:=by simpa using he
    rw [if_pos he] at hq
    have HQ:=hide hq
    clear hq hx hdr he
    go_wp2_with fail
    go_end0
    rw [← unhide HQ]
    exact (unhide hI).1.up (unhide hI).2.1
  ·have hq:=(unhide hI).2.2.1
   rw [List.drop_eq_nil_of_le (by omega),prm] at hq
   have HQ:=hide hq
   clear hq
   have hjl:¬ ((j:Int) < (ps.length:Int)):=by omega
   go_wp2_with fail
   go_end0
   rw [← unhide HQ]
   exact (unhide hI).1.up (unhide hI).2.1
end Go.Proofs.YtgkdmgndebifiaaGreatDoor
namespace Go.Proofs.YtgkdmgndebifiaaGreatDoor
open Go.RowKit Go.Maps
def colP (P:Nat):Nat → Nat:=fun k => if k = P then 7 else 0
theorem colP_of {P k:Nat} (h:k ≠ P):colP P k = 0:=by unfold colP;rw [if_neg h]
def IntsAt (w:World) (base:Nat) (a:Option Addr) (l:List Int):Prop:=l = [] ∨ ∃ b,a = some ⟨b,0,none⟩ ∧ base ≤ b ∧ b < w.heap.size ∧ ∀ j x,l[j]? = some x → w.cell? ⟨b,j,none⟩ = some (.int .i64 x)
theorem RowAt.ints {w:World} {col:Nat → Nat} {c base:Nat} {a:Option Addr} {cap:Nat} {l:List Int} (h:RowAt w col c 3 a cap (nms l)) (hc:∀ k,col k = c → base ≤ k):l.length ≤ cap ∧ IntsAt w base a l:=by
 have ho:=h.own
 have hue:=h.hue
 have e0:(nms l).length = l.length:=List.length_map _
 rw [e0] at ho hue
 obtain ⟨hlen,⟨e,h0⟩ | ⟨b,cap2,cur,e,hb,hrow,hcp,_⟩⟩:=id ho
 ·have:l = []:=List.length_eq_zero_iff.1 h0
  subst this
  exact ⟨Nat.zero_le _,Or.inl rfl⟩
 ·injection e with e1 e2 e3
  subst e1 e3
  refine ⟨hcp,Or.inr ⟨b,rfl,hc b (hue b rfl),(Array.getElem?_eq_some_iff.1 hrow).1,fun j x hx => ?_⟩⟩
  have:=cells_own ho j (.int .i64 x) (by rw [List.getElem?_map,hx];rfl)
  rw [Nat.zero_add] at this
  exact this
theorem IntsAt.keep {w w':World} {base base':Nat} {a:Option Addr} {l:List Int} (h:IntsAt w base a l) (hz:w.heap.size ≤ w'.heap.size) (hb:base' ≤ base) (hk:∀ k,base ≤ k → k < w.heap.size → w'.heap[k]? = w.heap[k]?):IntsAt w' base' a l:=by
 rcases h with h | ⟨b,e,h1,h2,h3⟩
 ·exact Or.inl h
 ·exact Or.inr ⟨b,e,by omega,by omega,fun j x hx => by rw [World.cell?_of_block (w:=w) (hk b h1 h2)];exact h3 j x hx⟩
abbrev scV (lc:Int) (sa:Option Addr) (sn sc:Nat) (ca:Option Addr) (cn cc:Nat):Value:=.agg #[.int .i64 lc,.slice sa sn sc,.slice ca cn cc]
def FnIs (P M:Nat) (fv:Value) (w:World) (st:WK) (e:Ending) (w':World):Prop :=
 ∃ sa sc ca cc,e = .returned (.tuple #[scV st.lc sa st.sl.length sc ca st.cl.length cc,.int .i64 st.e]) ∧ w'.heap[P]? = some (pgO fv M st.sp) ∧ Wk (colP P) (colP P) w w' ∧ st.sl.length ≤ sc ∧ IntsAt w' w.heap.size sa st.sl ∧ st.cl.length ≤ cc ∧ IntsAt w' w.heap.size ca st.cl
theorem fn_shut {P M:Nat} {fv:Value} {w w3:World} {col:Nat → Nat} {st:WK} {lv:Option Nat} {oa ba sa ca:Option Addr} {oc bc sc cc:Nat} (lP:P < w.heap.size) (h:WS w3 (w.heap.size + 1) P M fv col st) (hk:Wk (colP P) col w w3) (hc0:col w.heap.size = 0) (hP:w3.heap[P]? = some (pgO fv M st.sp)) (h4:RowAt w3 col 4 3 sa sc (nms st.sl)) (h5:RowAt w3 col 5 3 ca cc (nms st.cl)) (hl:w.heap.size < w3.heap.size) :
  FnIs P M fv w st (.returned (.tuple #[scV st.lc sa st.sl.length sc ca st.cl.length cc,.int .i64 st.e])) ((((w3.setCell ⟨w.heap.size,0,none⟩ (.int .i64 st.lc)).setCell ⟨w.heap.size,1,none⟩ (.slice sa st.sl.length sc)).setCell ⟨w.heap.size,2,none⟩ (.slice ca st.cl.length cc)).drew):=by
 have hcol:∀ c,c ≠ 0 → c ≠ 7 → ∀ k,col k = c → w.heap.size + 1 ≤ k:=fun c h0 h7 k hc => by
  rcases Nat.lt_or_ge k w.heap.size with h | h
  ·rw [hk.same k h] at hc
   unfold colP at hc
   split at hc <;> omega
  ·rcases Nat.lt_or_ge w.heap.size k with h2 | h2
   ·exact h2
   ·have:k = w.heap.size:=by omega
    rw [this,hc0] at hc
    omega
 obtain ⟨l4,i4⟩:=h4.ints (base:=w.heap.size + 1) (hcol 4 (by decide) (by decide))
 obtain ⟨l5,i5⟩:=h5.ints (base:=w.heap.size + 1) (hcol 5 (by decide) (by decide))
 have hz:((((w3.setCell ⟨w.heap.size,0,none⟩ (.int .i64 st.lc)).setCell ⟨w.heap.size,1,none⟩ (.slice sa st.sl.length sc)).setCell ⟨w.heap.size,2,none⟩ (.slice ca st.cl.length cc)).drew).heap.size = w3.heap.size:=by simp [World.setCell]
 have hb:∀ k,k ≠ w.heap.size → ((((w3.setCell ⟨w.heap.size,0,none⟩ (.int .i64 st.lc)).setCell ⟨w.heap.size,1,none⟩ (.slice sa st.sl.length sc)).setCell ⟨w.heap.size,2,none⟩ (.slice ca st.cl.length cc)).drew).heap[k]? = w3.heap[k]?:=fun k hk => (Below.heap_setCell _ _ _ _ hk).trans ((Below.heap_setCell _ _ _ _ hk).trans (Below.heap_setCell _ _ _ _ hk))
 have xo:((((w3.setCell ⟨w.heap.size,0,none⟩ (.int .i64 st.lc)).setCell ⟨w.heap.size,1,none⟩ (.slice sa st.sl.length sc)).setCell ⟨w.heap.size,2,none⟩ (.slice ca st.cl.length cc)).drew).os = w.os:=hk.os
 have xt:((((w3.setCell ⟨w.heap.size,0,none⟩ (.int .i64 st.lc)).setCell ⟨w.heap.size,1,none⟩ (.slice sa st.sl.length sc)).setCell ⟨w.heap.size,2,none⟩ (.slice ca st.cl.length cc)).drew).tape = w.tape:=hk.tape
 have xu:((((w3.setCell ⟨w.heap.size,0,none⟩ (.int .i64 st.lc)).setCell ⟨w.heap.size,1,none⟩ (.slice sa st.sl.length sc)).setCell ⟨w.heap.size,2,none⟩ (.slice ca st.cl.length cc)).drew).output = w.output:=hk.output
 generalize (((w3.setCell ⟨w.heap.size,0,none⟩ (.int .i64 st.lc)).setCell ⟨w.heap.size,1,none⟩ (.slice sa st.sl.length sc)).setCell ⟨w.heap.size,2,none⟩ (.slice ca st.cl.length cc)).drew = W at *
 exact ⟨sa,sc,ca,cc,rfl,(hb P (by omega)).trans hP,⟨xo,xt,xu,by omega,fun _ _ => rfl,fun k h1 h0 => (hb k (by omega)).trans (hk.keep k h1 h0)⟩,l4,i4.keep (by omega) (by omega) (fun k h1 _ => hb k (by omega)),l5,i5.keep (by omega) (by omega) (fun k h1 _ => hb k (by omega))⟩
set_option maxHeartbeats 2000000 in
theorem fn_w (P M:Nat) (fv:Value) (sp:Int) (nm:List (ByteArray × Int)) (fs:List PFn) (p:PFn) (fb fo f:Nat) (pa:Option Addr) (pc:Nat) (w:World) (st:WK) (hP:w.heap[P]? = some (pgO fv M sp)) (hC:Ctx w (colP P) M fv nm fs) (h1:w.cell? ⟨fb,fo + 1,none⟩ = some (.slice pa p.ps.length pc)) (hpc:p.ps.length ≤ pc) (hr:RepS w (fun k => colP P k = 0 ∧ k < w.heap.size) p.ps pa) (hN:NodeAt w (colP P) p.bd fb (fo + 2)) (hf:p.ps.length + f + 3 ≤ 9000000) (hq:fnW nm fs f sp p = some st) :
  Calls Tryz.prog 19 #[.pointer (some ⟨P,0,none⟩),.pointer (some ⟨fb,fo,none⟩)] w (FnIs P M fv w st):=by
 have lP:=(Array.getElem?_eq_some_iff.1 hP).1
 unfold fnW at hq
 cases hsm:(small p.bd.s && p.ps.all small) with
 | false => rw [hsm] at hq;cases hq
 | true =>
 rw [hsm,if_pos rfl] at hq
 rw [Bool.and_eq_true] at hsm
 obtain ⟨hs1,hs2⟩:=hsm
 cases hth:thr nm fs f [(p.bd,0)] ((prm p.ps (wkZ sp)).bgn p.bd) with
 | none => rw [hth] at hq;cases hq
 | some stF =>
 rw [hth] at hq
 simp only at hq
 injection hq with hq
 obtain ⟨ob,hob⟩:∃ ob:Obj,ob = .cells #[.int .i64 0,.slice none 0 0,.slice none 0 0] 42 (0,0):=⟨_,rfl⟩
 have HW:Hd (WS ((w.alloc ob).alloc (wkO P none none 0 0 none 0 0 0 0 none 0 0 none 0 0 0)) (w.heap.size + 1) P M fv (hued (colP P) (w.heap.size + 1) 6) (wkZ sp) ∧ Wk (colP P) (hued (colP P) (w.heap.size + 1) 6) w ((w.alloc ob).alloc (wkO P none none 0 0 none 0 0 0 0 none 0 0 none 0 0 0))):=by
  have hX:Ext w ((w.alloc ob).alloc (wkO P none none 0 0 none 0 0 0 0 none 0 0 none 0 0 0)):=(Ext.alloc _ _).trans (Ext.alloc _ _)
  have hz:((w.alloc ob).alloc (wkO P none none 0 0 none 0 0 0 0 none 0 0 none 0 0 0)).heap.size = w.heap.size + 2:=by rw [size_alloc,size_alloc]
  have hb:=Go.heap_alloc_new (w.alloc ob) (wkO P none none 0 0 none 0 0 0 0 none 0 0 none 0 0 0)
  rw [size_alloc] at hb
  have hc:∀ k,k < w.heap.size → hued (colP P) (w.heap.size + 1) 6 k = colP P k:=fun k hk => by unfold hued;rw [if_neg (by omega)]
  refine ⟨⟨fun k hk => ?_,by unfold hued;rw [if_pos rfl],(hc P lP).trans (by unfold colP;rw [if_pos rfl]),none,none,none,none,none,0,0,0,0,hb,hX.row hP,Or.inl ⟨rfl,rfl⟩,⟨World.ownsRow_nil _ _ _ _,fun k e => by cases e⟩,⟨World.ownsRow_nil _ _ _ _,fun k e => by cases e⟩,⟨World.ownsRow_nil _ _ _ _,fun k e => by cases e⟩,⟨World.ownsRow_nil _ _ _ _,fun k e => by cases e⟩⟩,⟨hX.os,hX.tape,hX.output,hX.size,hc,fun k hk _ => hX.block k hk⟩⟩
  unfold hued colP
  rw [if_neg (by omega),if_neg (by omega)]
 rw [hob] at HW
 have hz0:Bd (wkZ sp) 0:=⟨by show (Lit.int .i64 0).wf = true;decide,Nat.le_refl _,Nat.le_refl _,Nat.le_refl _,Nat.le_refl _,Nat.le_refl _,fun x hx => by cases hx⟩
 have hbp:∀ (ps:List ByteArray) (s:WK) (n:Nat),(∀ x ∈ ps,small x = true) → Bd s n → Bd (prm ps s) (n + ps.length):=by
  intro ps
  induction ps with
  | nil => intro s n _ hb;exact hb
  | cons x r ih =>
   intro s n hx hb
   rw [prm]
   split
   ·exact hb.mono (by simp)
   ·have:=ih (s.declare x) (n + 1) (fun y hy => hx y (List.mem_cons_of_mem _ hy)) (hb.declare (hx x (List.mem_cons_self ..)))
    refine this.mono (by simp;omega)
 have hsps:∀ x ∈ p.ps,small x = true:=fun x hx => List.all_eq_true.1 hs2 x hx
 have HPM:=hide (prm_w (w.heap.size + 1) P M fv _ (wkZ sp) p.ps pa pc 0 _ (unhide HW).1 (hr.to (fun k hk => ⟨⟨((unhide HW).2.same k hk.2).trans hk.1,Nat.lt_of_lt_of_le hk.2 (unhide HW).2.size⟩,(unhide HW).2.keep k hk.2 hk.1⟩)) hpc hsps hz0 (by omega))
 have HBD:=hide (hbp p.ps (wkZ sp) 0 hsps hz0)
 have HTH:=hide (fun (W:World) (col:Nat → Nat) (hw:WS W (w.heap.size + 1) P M fv col (prm p.ps (wkZ sp))) (hk:Wk (colP P) col w W) => thr_w (w.heap.size + 1) P M fv col (prm p.ps (wkZ sp)) nm fs p.bd fb (fo + 2) f (0 + p.ps.length) W stF hw (hC.on hk) (hN.on hk) hs1 (unhide HBD) (by omega) hth)
 have hfl:fb < w.heap.size:=hN.lt
 have HQ:=hide hq
 have HW2:=hide (unhide HW).2
 have HC0:Hd (hued (colP P) (w.heap.size + 1) 6 w.heap.size = 0):=by unfold Hd hued colP;rw [if_neg (by omega),if_neg (by omega)]
 clear hP hC hr hN hth hq hs1 hs2 hsps hbp hz0 HW hob
 by_cases hgt:64 < stF.lc
 ·have HQ:Hd (stF.fail 65 = st):=by have h0:=unhide HQ;rw [if_pos hgt] at h0;exact h0
  go_enter Tryz.func19,Tryz.ntmps19
  go_wp2_with (first
   | (go_at_call 39;refine Calls.mono (unhide HPM) ?_;rintro e w1 ⟨rfl,col1,a,b⟩;have A1:=hide a;have B1:=hide ((unhide HW2).trans b);have O1:=hide (b.keep w.heap.size (by rw [size_alloc,size_alloc];omega) (unhide HC0));have K1:=hide (b.same w.heap.size (by rw [size_alloc,size_alloc];omega));have Z1:=hide b.size;clear a b)
   | (go_at_call 40;refine Calls.mono (unhide HTH w1 col1 (unhide A1) (unhide B1)) ?_;rintro e w2 ⟨rfl,col2,a,b⟩;have q5:=a.c5.1;have A2:=hide a;have B2:=hide ((unhide B1).trans b);have Z2:=hide (Nat.lt_of_lt_of_le (show w.heap.size < w1.heap.size by have h0:=unhide Z1;rw [size_alloc,size_alloc] at h0;omega) b.size);have K2:=hide ((b.same w.heap.size (by have h0:=unhide Z1;rw [size_alloc,size_alloc] at h0;omega)).trans ((unhide K1).trans (unhide HC0)));have O2:=hide ((b.keep w.heap.size (by have h0:=unhide Z1;rw [size_alloc,size_alloc] at h0;omega) ((unhide K1).trans (unhide HC0))).trans (unhide O1));clear a b)
   | (go_at_call 41;refine Calls.mono (fail_w _ _ _ _ _ stF 65 w2 (unhide A2)) ?_;rintro e w3 ⟨rfl,col3,a,b⟩;have AX:=hide a;have BX:=hide ((unhide B2).trans b);have ZX:=hide (Nat.lt_of_lt_of_le (unhide Z2) b.size);have KX:=hide ((b.same w.heap.size (unhide Z2)).trans (unhide K2));have OX:=hide ((b.keep w.heap.size (unhide Z2) (unhide K2)).trans (unhide O2));clear a b))
  obtain ⟨lv,oa,ba,sa,ca,oc,bc,sc,cc,hB,hP,hm,h2,h3,h4,h5⟩:=id (unhide AX).ex
  have b5:=rowC hB 5 rfl
  have b6:=rowC hB 6 rfl
  have b7:=rowC hB 7 rfl
  have b8:=rowC hB 8 rfl
  have RR:=unhide OX
  rw [(Ext.alloc _ _).block w.heap.size (by rw [size_alloc];omega),Go.heap_alloc_new w _] at RR
  have r0:=rowC RR 0 rfl
  have r1:=rowC RR 1 rfl
  have r2:=rowC RR 2 rfl
  have rz:=rowF RR
  have FS:=hide (fn_shut (lv:=lv) (oa:=oa) (ba:=ba) (oc:=oc) (bc:=bc) lP (unhide AX) (unhide BX) (unhide KX) hP h4 h5 (unhide ZX))
  clear hB hP hm h2 h3 h4 h5
  refine wp_nrm ?_
  first | skip;go_region | fail
  all_goals
   simp only [Nrm]
   go_wp2_with fail
   rw [← unhide HQ]
   exact bodyPost_ret (v:=_) (by simp [results,Tryz.results19,go_sem,r0,r1,r2,rz]) rfl (unhide FS)
 ·have HQ:Hd (stF = st):=by have h0:=unhide HQ;rw [if_neg hgt] at h0;exact h0
  go_enter Tryz.func19,Tryz.ntmps19
  go_wp2_with (first
   | (go_at_call 39;refine Calls.mono (unhide HPM) ?_;rintro e w1 ⟨rfl,col1,a,b⟩;have A1:=hide a;have B1:=hide ((unhide HW2).trans b);have O1:=hide (b.keep w.heap.size (by rw [size_alloc,size_alloc];omega) (unhide HC0));have K1:=hide (b.same w.heap.size (by rw [size_alloc,size_alloc];omega));have Z1:=hide b.size;clear a b)
   | (go_at_call 40;refine Calls.mono (unhide HTH w1 col1 (unhide A1) (unhide B1)) ?_;rintro e w2 ⟨rfl,col2,a,b⟩;have q5:=a.c5.1;have A2:=hide a;have B2:=hide ((unhide B1).trans b);have Z2:=hide (Nat.lt_of_lt_of_le (show w.heap.size < w1.heap.size by have h0:=unhide Z1;rw [size_alloc,size_alloc] at h0;omega) b.size);have K2:=hide ((b.same w.heap.size (by have h0:=unhide Z1;rw [size_alloc,size_alloc] at h0;omega)).trans ((unhide K1).trans (unhide HC0)));have O2:=hide ((b.keep w.heap.size (by have h0:=unhide Z1;rw [size_alloc,size_alloc] at h0;omega) ((unhide K1).trans (unhide HC0))).trans (unhide O1));clear a b))
  have AX:=A2
  have BX:=B2
  have ZX:=Z2
  have KX:=K2
  have OX:=O2
  obtain ⟨lv,oa,ba,sa,ca,oc,bc,sc,cc,hB,hP,hm,h2,h3,h4,h5⟩:=id (unhide AX).ex
  have b5:=rowC hB 5 rfl
  have b6:=rowC hB 6 rfl
  have b7:=rowC hB 7 rfl
  have b8:=rowC hB 8 rfl
  have RR:=unhide OX
  rw [(Ext.alloc _ _).block w.heap.size (by rw [size_alloc];omega),Go.heap_alloc_new w _] at RR
  have r0:=rowC RR 0 rfl
  have r1:=rowC RR 1 rfl
  have r2:=rowC RR 2 rfl
  have rz:=rowF RR
  have FS:=hide (fn_shut (lv:=lv) (oa:=oa) (ba:=ba) (oc:=oc) (bc:=bc) lP (unhide AX) (unhide BX) (unhide KX) hP h4 h5 (unhide ZX))
  clear hB hP hm h2 h3 h4 h5
  refine wp_nrm ?_
  first | skip;go_region | fail
  all_goals
   simp only [Nrm]
   go_wp2_with fail
   rw [← unhide HQ]
   exact bodyPost_ret (v:=_) (by simp [results,Tryz.results19,go_sem,r0,r1,r2,rz]) rfl (unhide FS)
end Go.Proofs.YtgkdmgndebifiaaGreatDoor
namespace Go.Proofs.YtgkdmgndebifiaaGreatDoor
open Go.RowKit Go.Maps
theorem look_all {w:World} {bm n:Nat} {lm:List (ByteArray × Int)} (h:MapIs w bm n lm) {s:ByteArray} (hs:small s = true) :
  ∃ c:Int,∀ W:World,W.heap[bm]? = w.heap[bm]? → (Instr.lookup 98 (.map (some bm)) (.string s) true).run Tryz.prog W = .ok (.tuple #[.int .i64 c,.bool (lkp lm s).isSome]) W:=by
 obtain ⟨D,ho,hx⟩:=h
 have key:∀ W:World,W.heap[bm]? = w.heap[bm]? → ∃ c:Int,(Instr.lookup 98 (.map (some bm)) (.string s) true).run Tryz.prog W = .ok (.tuple #[.int .i64 c,.bool (lkp lm s).isSome]) W ∧ D.atKey (kyS s) (.lit (.int .i64 0)) = .lit (.int .i64 c):=by
  intro W hW
  have ho2:W.ownsMap Tryz.prog 9 (plainElem Tryz.prog 3) bm n D:=by
   obtain ⟨es,clock,hb,r⟩:=ho
   exact ⟨es,clock,hW.trans hb,r⟩
  obtain ⟨v,ps,hrun,hv⟩:=ho2.look_ok keyS Tryz.underlying98 (zeroI W) (plainElem_int Tryz.underlying3 (by decide)) (small_key hs)
  obtain ⟨c,rfl,hc,hwc⟩:=plainElem_int_inv Tryz.underlying3 hv
  rw [(hx s).1] at hrun
  exact ⟨c,hrun,congrArg Prod.fst hc⟩
 obtain ⟨c,h1,h2⟩:=key w rfl
 refine ⟨c,fun W hW => ?_⟩
 obtain ⟨c',h3,h4⟩:=key W hW
 have h5:(DataW.lit (Lit.int .i64 c):DataW Unit) = .lit (.int .i64 c'):=h2.symm.trans h4
 injection h5 with h5
 injection h5 with _ h5
 rw [h5]
 exact h3
structure PgI (w wr:World) (fv:Value) (fs:List PFn) (j:Nat) (nm:List (ByteArray × Int)):Prop where
 ext:Ext w wr
 map:MapIs wr w.heap.size j nm
 row:wr.heap[w.heap.size + 1]? = some (pgO fv w.heap.size 0)
 eq:nums (fs.drop j) j nm = nums fs 0 []
def ProgAns (fs:List PFn) (fv:Value) (w:World) (e:Ending) (w':World):Prop :=
 Ext w w' ∧ ((nums fs 0 [] = none ∧ e = .returned (.tuple #[.pointer none,.int .i64 11])) ∨ ∃ nm n,nums fs 0 [] = some nm ∧ e = .returned (.tuple #[.pointer (some ⟨w.heap.size + 1,0,none⟩),.int .i64 0]) ∧ MapIs w' w.heap.size n nm ∧ w'.heap[w.heap.size + 1]? = some (pgO fv w.heap.size 0))
set_option maxHeartbeats 2000000 in
theorem programOf_w (fs:List PFn) (fa:Option Addr) (fcap:Nat) (F:Nat → Prop) (w:World) (hr:RepFL w F fs fa) (hcap:fs.length ≤ fcap) (hl:fs.length ≤ 100001) (hT:Tbl w) (hsm:∀ p ∈ fs,small p.nm = true) :
  Calls Tryz.prog 18 #[.slice fa fs.length fcap] w (ProgAns fs (.slice fa fs.length fcap) w):=by
 have HR:=hide hr
 have HT:=hide hT
 have HSM:=hide hsm
 have PI:Hd (PgI w ((w.alloc (.map #[] 0)).alloc (pgO (.slice fa fs.length fcap) w.heap.size 0)) (.slice fa fs.length fcap) fs 0 []):=by
  have h1:=Go.heap_alloc_new (w.alloc (.map #[] 0)) (pgO (.slice fa fs.length fcap) w.heap.size 0)
  rw [size_alloc] at h1
  exact ⟨(Ext.alloc _ _).trans (Ext.alloc _ _),(MapIs.made w).keep ((Ext.alloc _ _).block _ (by simp)),h1,by rw [List.drop_zero]⟩
 have hmm:=@run_makeMap Tryz.prog
 clear hr hT hsm
 go_enter Tryz.func18,Tryz.ntmps18
 go_wp2_with fail
 go_loopw [18] (fun t wr => ∃ (j:Nat) (nm:List (ByteArray × Int)),t = .int .i64 j ∧ j ≤ fs.length ∧ Hd (PgI w wr (.slice fa fs.length fcap) fs j nm)) (fun t _ => fs.length - (intOf t).toNat)
 case atStart => exact ⟨0,[],rfl,Nat.zero_le _,PI⟩
 case round =>
  clear PI
  obtain ⟨j,nm,rfl,hj,hI⟩:=hrel
  have hrow:=(unhide hI).row
  have m1:=rowC hrow 1 rfl
  have hl1:w.heap.size + 1 < wr.heap.size:=(Array.getElem?_eq_some_iff.1 hrow).1
  by_cases hlt:j < fs.length
  ·obtain ⟨p,hp⟩:∃ p,fs[j]? = some p:=⟨_,List.getElem?_eq_getElem hlt⟩
   have hdr:fs.drop j = p :: fs.drop (j + 1):=by rw [List.drop_eq_getElem_cons hlt,(List.getElem?_eq_some_iff.1 hp).2]
   have hq:=(unhide hI).eq
   rw [hdr,nums] at hq
   have hsp:=unhide HSM p (List.mem_of_getElem? hp)
   rcases unhide HR with hnil | ⟨b,off,xs,rfl,hb,hx,hc⟩
   ·rw [hnil] at hlt;simp at hlt
   obtain ⟨pa,pc,a2,cap2,h1,h2,_,_,hat⟩:=hx.at hp
   have p0:=(unhide hI).ext.cell (hc _ _ (hat 0 _ rfl))
   have p1:=(unhide hI).ext.cell (hc _ _ (hat 1 _ rfl))
   have p2:=(unhide hI).ext.cell (hc _ _ (hat 2 _ rfl))
   have p3:=(unhide hI).ext.cell (hc _ _ (hat 3 _ rfl))
   have p4:=(unhide hI).ext.cell (hc _ _ (hat 4 _ rfl))
   have p5:=(unhide hI).ext.cell (hc _ _ (hat 5 _ rfl))
   have p6:=(unhide hI).ext.cell (hc _ _ (hat 6 _ rfl))
   simp only [← Nat.add_assoc,Nat.add_zero] at p0 p1 p2 p3 p4 p5 p6
   obtain ⟨ob,hob⟩:∃ ob:Obj,ob = funO p.nm pa p.ps.length pc p.bd.k p.bd.o p.bd.s p.bd.n a2 p.bd.l.length cap2:=⟨_,rfl⟩
   obtain ⟨c,hlook⟩:=look_all (unhide hI).map hsp
   have hX:Ext wr (wr.alloc ob):=Ext.alloc _ _
   have hMl:=(unhide hI).map.lt
   have hrun:∀ W:World,W.heap = (wr.alloc ob).heap → (Instr.lookup 98 (.map (some w.heap.size)) (.string p.nm) true).run Tryz.prog W = .ok (.tuple #[.int .i64 c,.bool (lkp nm p.nm).isSome]) W:=fun W hW => hlook W (by rw [hW];exact hX.block _ hMl)
   have hrun1:=hrun (wr.alloc ob).drew rfl
   rw [hob] at hrun1
   have HBi:=hide (fun (W:World) (x:Ext w W) => builtin_w p.nm W ((unhide HT).ext x))
   have XE:=hide ((unhide hI).ext.trans hX)
   unfold biV at HBi
   clear hx hc hat hdr
   rw [hob] at XE
   cases hb1:(lkp nm p.nm).isSome
   ·rw [hb1] at hrun1 hq
    rw [Bool.false_or] at hq
    cases hb2:biP p.nm with
    | some r =>
     obtain ⟨r1,r2⟩:=r
     rw [hb2] at HBi hq
     simp only at HBi
     rw [Option.isSome_some,if_pos rfl] at hq
     have HNo:=hide hq.symm
     clear hq hlook hrun
     go_wp2_with fail
     refine wp_nrm ?_
     first | skip;go_region | fail
     all_goals
      simp only [Nrm]
      go_wp2_with (go_at_call 14;refine Calls.mono (unhide HBi _ ((unhide XE).trans (Ext.drew (Ext.refl _)))) ?_;rintro e w1 ⟨rfl,hw⟩;obtain rfl:=hw.symm)
      exact bodyPost_ret (v:=.tuple #[.pointer none,.int .i64 11]) (by simp [results,Tryz.results18]) rfl ⟨(unhide XE).trans (Ext.drew (Ext.refl _)),Or.inl ⟨unhide HNo,rfl⟩⟩
    | none =>
     rw [hb2] at HBi hq
     simp only at HBi
     rw [Option.isSome_none,if_neg (by decide)] at hq
     obtain ⟨D,hD,hxs⟩:=(unhide hI).map
     have hDX:((wr.alloc ob).drew.drew).ownsMap Tryz.prog 9 (plainElem Tryz.prog 3) w.heap.size j D:=by
      obtain ⟨es,clock,hb,r⟩:=hD
      exact ⟨es,clock,(hX.block _ hMl).trans hb,r⟩
     obtain ⟨wu,hrunU,hoU,hgU⟩:=hDX.update keyS Tryz.underlying98 (by unfold maxLen;omega) (small_key hsp) (plainElem_int (q:=.i64) Tryz.underlying3 (WalkArith.wf_i64 (n:=(j:Int)) (by omega)))
     rw [hob] at hrunU
     have NI:Hd (PgI w wu (.slice (some ⟨b,off,none⟩) fs.length fcap) fs (j + 1) ((p.nm,(j:Int)) :: nm)):=by
      have hE:=(unhide hI).ext
      refine ⟨⟨hgU.os.trans hE.os,hgU.tape.trans hE.tape,hgU.output.trans hE.output,Nat.le_trans hE.size (Nat.le_trans hX.size hgU.size),fun k hk => (hgU.block k (Nat.lt_of_lt_of_le hk (Nat.le_trans hE.size hX.size)) (fun e => by injection e with e;omega)).trans ((hX.block k (Nat.lt_of_lt_of_le hk hE.size)).trans (hE.block k hk))⟩,MapIs.put hD.isMap hxs hoU,?_,hq⟩
      exact (hgU.block _ (Nat.lt_of_lt_of_le hl1 hX.size) (fun e => by injection e with e;omega)).trans ((hX.block _ hl1).trans hrow)
     clear hq hlook hrun hD hxs hDX hoU hgU
     go_wp2_with fail
     refine wp_nrm ?_
     first | skip;go_region | fail
     all_goals
      simp only [Nrm]
      go_wp2_with (go_at_call 14;refine Calls.mono (unhide HBi _ ((unhide XE).trans (Ext.drew (Ext.refl _)))) ?_;rintro e w1 ⟨rfl,hw⟩;obtain rfl:=hw.symm)
      refine wp_nrm ?_
      first | skip;go_region | fail
      all_goals
       simp only [Nrm]
       go_wp2_with fail
       go_roundw
       case rel => exact ⟨j + 1,_,by go_num,by omega,NI⟩
       case measure => simp [intOf];omega
   ·rw [hb1] at hrun1 hq
    rw [Bool.true_or,if_pos rfl] at hq
    have HNo:=hide hq.symm
    clear hq hlook hrun
    cases hb2:biP p.nm with
    | some r =>
     obtain ⟨r1,r2⟩:=r
     rw [hb2] at HBi
     simp only at HBi
     go_wp2_with fail
     refine wp_nrm ?_
     first | skip;go_region | fail
     all_goals
      simp only [Nrm]
      go_wp2_with (go_at_call 14;refine Calls.mono (unhide HBi _ ((unhide XE).trans (Ext.drew (Ext.refl _)))) ?_;rintro e w1 ⟨rfl,hw⟩;obtain rfl:=hw.symm)
      exact bodyPost_ret (v:=.tuple #[.pointer none,.int .i64 11]) (by simp [results,Tryz.results18]) rfl ⟨(unhide XE).trans (Ext.drew (Ext.refl _)),Or.inl ⟨unhide HNo,rfl⟩⟩
    | none =>
     rw [hb2] at HBi
     simp only at HBi
     go_wp2_with fail
     refine wp_nrm ?_
     first | skip;go_region | fail
     all_goals
      simp only [Nrm]
      go_wp2_with (go_at_call 14;refine Calls.mono (unhide HBi _ ((unhide XE).trans (Ext.drew (Ext.refl _)))) ?_;rintro e w1 ⟨rfl,hw⟩;obtain rfl:=hw.symm)
      exact bodyPost_ret (v:=.tuple #[.pointer none,.int .i64 11]) (by simp [results,Tryz.results18]) rfl ⟨(unhide XE).trans (Ext.drew (Ext.refl _)),Or.inl ⟨unhide HNo,rfl⟩⟩
  ·have hq:=(unhide hI).eq
   rw [List.drop_eq_nil_of_le (by omega),nums] at hq
   have HQ:=hide hq.symm
   clear hq
   go_wp2_with fail
   exact bodyPost_ret (v:=.tuple #[.pointer (some ⟨w.heap.size + 1,0,none⟩),.int .i64 0]) (by simp [results,Tryz.results18]) rfl ⟨(unhide hI).ext,Or.inr ⟨nm,j,unhide HQ,rfl,(unhide hI).map,(unhide hI).row⟩⟩
end Go.Proofs.YtgkdmgndebifiaaGreatDoor
