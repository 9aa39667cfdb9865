/- The document's way through a tree: names that are used,what has parts alone. · The document's way through a tree: a block,a call. -/
import Derived.Test.YtgkdmgndebifiaaGreatDoorZd43
set_option linter.unusedSimpArgs false
set_option linter.unusedVariables false
set_option maxRecDepth 10000
namespace Go.Proofs.YtgkdmgndebifiaaGreatDoor
open Go.RowKit Go.Maps
variable {g:Nat} {w w' w2:World} {fv:Value} {fs:List PFn} {d:DK}
set_option maxHeartbeats 4000000 in
theorem walk_use2 {F:Nat} {o n:Int} {s:ByteArray} {l:List PN} {v:Value} (hfl:fs.length ≤ 100000) (hps:∀ p ∈ fs,p.ps.length ≤ 100000) (hw:∀ x ∈ l,WkOf g fv fs F x) (h:CK g w fv fs d) (hr:RepN w (fun b => b < g) ⟨2,o,s,n,l⟩ v) (he:d.e = 0) (hb1:d.see.length + nszL l < 100000) (hb2:d.sl.length + nszL l < 100000) (hb3:d.cl.length + nszL l < 100000) (hb4:0 ≤ d.lp) (hb5:d.lp + nszL l < 100000) (hb6:0 ≤ d.lc) (hb7:d.lc + nszL l < 100000) (hll:l.length ≤ 100000) :
  Calls Tryz.prog 17 #[.pointer (some ⟨g,0,none⟩),v] w (CAns g w fv fs (dEnd fs 2 s l.length d.see.length (l.foldl (fun d x => dW fs F x d) (dBeg 2 s d)))):=by
 have hg:=h.lt
 rw [RepN] at hr
 obtain ⟨a,cap,rfl,hcap,hl⟩:=hr
 have hlenz:∀ j,nszL (l.take j) ≤ nszL l:=fun j => by
  have h9:=nszL_append (l.take j) (l.drop j)
  rw [List.take_append_drop] at h9
  omega
 have hatz:∀ (j:Nat) (x:PN),l[j]? = some x → nszL (l.take j) + nsz x ≤ nszL l:=fun j x hx => by
  have hlt:=(List.getElem?_eq_some_iff.1 hx).1
  have h9:=nszL_append (l.take j) (l.drop j)
  rw [List.take_append_drop,List.drop_eq_getElem_cons hlt,(List.getElem?_eq_some_iff.1 hx).2,nszL] at h9
  omega
 have hbg:dBeg 2 s d = d.use s:=by unfold dBeg;rw [if_pos (by decide)]
 rw [hbg]
 obtain ⟨mk,hmk⟩:∃ mk,mk = d.see.length:=⟨_,rfl⟩
 rw [← hmk]
 have X0:Ext w (w.alloc (nodO 2 o s n (.slice a l.length cap))):=Ext.alloc _ _
 have HB:=hide (Go.heap_alloc_new w (nodO 2 o s n (.slice a l.length cap)))
 have HL0:=hide ((CF.of hg X0).repL hl)
 have HK0:=hide (h.ext X0)
 have HX0:=hide (CF.of hg X0)
 have HU:=hide (use_c (h.ext X0) he (by omega) (by omega) s)
 obtain ⟨u1,u2,u3,u4,u5⟩:=use_le d s
 obtain ⟨d0,hd0⟩:∃ d0,d0 = (d.use s):=⟨_,rfl⟩
 rw [← hd0] at HU u1 u2 u3 u4 u5 ⊢
 have hs0:d0.see = d.see:=u3
 have hs1:d0.sl.length ≤ d.sl.length + 1:=u1
 have hs2:d0.cl = d.cl:=u2
 have hs3:d0.lc = d.lc:=u4
 have hs4:d0.lp = d.lp:=u5
 have HFO:=hide (fun (j:Nat) => fold_le fs F (fun q e => dW_le fs F q e) (l.take j) d0)
 have HPRE:=hide (fold_pre fs F (fun q e => dW_pre fs F q e) l d0)
 have hwk:∀ (wr:World) (j:Nat) (x:PN) (u:Value),l[j]? = some x → CK g wr fv fs ((l.take j).foldl (fun d x => dW fs F x d) d0) → RepN wr (fun b => b < g) x u → Calls Tryz.prog 17 #[.pointer (some ⟨g,0,none⟩),u] wr (CAns g wr fv fs ((l.take (j + 1)).foldl (fun d x => dW fs F x d) d0)):=fun wr j x u hx k r => by
  have hlt:=(List.getElem?_eq_some_iff.1 hx).1
  have e9:l.take (j + 1) = l.take j ++ [x]:=by rw [List.take_succ_eq_append_getElem hlt,(List.getElem?_eq_some_iff.1 hx).2]
  rw [e9,List.foldl_append,List.foldl_cons,List.foldl_nil]
  have f9:=unhide HFO j
  have z9:=hatz j x hx
  have f1:=f9.see
  have f2:=f9.sl
  have f3:=f9.cl
  have f4:=f9.lc
  have f5:=f9.lc0
  have f6:=f9.lp
  rw [hs0] at f1
  rw [hs2] at f3
  rw [hs3] at f4 f5
  rw [hs4] at f6
  exact hw x (List.mem_of_getElem? hx) wr _ u k r (by omega) (by omega) (by omega) (by omega) (by omega) (by omega) (by omega)
 have HWK:=hide hwk
 obtain ⟨sa,ns,sc,ca,nc,cc,ea,ne,ec,h⟩:=h
 have hne:=h.hne
 have hrow:=h.row
 rw [he] at hrow
 obtain ⟨c0,c1,c2,c3,c4,c5,c6,zf⟩:=ck_c hrow
 obtain ⟨d2,hd2⟩:∃ d2,d2 = l.foldl (fun d x => dW fs F x d) d0:=⟨_,rfl⟩
 rw [← hd2]
 have HD2:Hd (∀ j,j = l.length → (l.take j).foldl (fun d x => dW fs F x d) d0 = d2):=fun j hj => by rw [hj,List.take_length,hd2]
 have hpre:d.see.length ≤ d2.see.length:=by
  have h9:=(unhide HPRE).length_le
  rw [← hd2,hs0] at h9
  exact h9
 have hall:=unhide HFO l.length
 rw [List.take_length,← hd2] at hall
 have A1:=hall.see
 have A2:=hall.sl
 have A3:=hall.cl
 have A4:=hall.lc
 have A5:=hall.lc0
 rw [hs0] at A1
 rw [hs2] at A3
 rw [hs3] at A4 A5
 rw [hne] at hpre A1 hmk
 have hmk2:=hmk.symm
 clear hmk
 subst hmk2
 clear h hrow hl X0 hd2 hwk hw hlenz hatz hbg HFO HPRE hall he
 generalize hM:l.length = m at *
 have hwg:(w.heap.size == g) = false:=by simp;omega
 go_enter Tryz.func17,Tryz.ntmps17
 go_wp2_with (go_at_call 37;refine Calls.mono (unhide HU) ?_;rintro e W1 ⟨rfl,hk,hcf⟩;have K1:=hide hk;have F1:=hide ((unhide HX0).trans hcf);have RB:=hide (hcf.rowN (by show w.heap.size ≠ g;omega) (unhide HB));have LR:=hide (hcf.repL (unhide HL0));clear hk hcf)
 clear HK0 HX0 HB HL0 hd0 c0 c1 c2 c3 c4 c5 c6 zf
 go_loopw [5] (fun t wr => ∃ (j:Nat),t = .int .i64 j ∧ j ≤ m ∧ Hd (CF g W1 wr) ∧ Hd (CK g wr fv fs ((l.take j).foldl (fun d x => dW fs F x d) d0))) (fun t _ => m - (intOf t).toNat)
 case atStart => exact ⟨0,rfl,Nat.zero_le _,CF.refl _ _,by rw [Hd,List.take_zero];exact unhide K1⟩
 case round =>
  obtain ⟨j,rfl,hj,hF,hK⟩:=hrel
  have hRB:=(unhide hF).rowN (by show w.heap.size ≠ g;omega) (unhide RB)
  have b0:=rowC hRB 0 rfl
  have b1:=rowC hRB 1 rfl
  have b2:=rowC hRB 2 rfl
  have b3:=rowC hRB 3 rfl
  have b4:=rowC hRB 4 rfl
  clear hRB
  by_cases hlt:j < m
  ·obtain ⟨x,hx⟩:∃ x,l[j]? = some x:=⟨_,List.getElem?_eq_getElem (by omega)⟩
   obtain ⟨b,off,x0,x1,x2,x3,x4,rfl,hbl,r,e0,e1,e2,e3,e4⟩:=repNL_at ((unhide hF).repL (unhide LR)) j x hx
   have HX:=hide (unhide HWK wr j x _ hx (unhide hK) r)
   clear r hx hbl
   go_wp2_with (go_at_call 17;refine Calls.mono (unhide HX) ?_;rintro e w2 ⟨rfl,hk,hcf⟩;have K2:=hide hk;have F2:=hide ((unhide hF).trans hcf);clear hk hcf)
   go_roundw
   case rel => exact ⟨j + 1,by go_num,by omega,F2,K2⟩
   case measure => simp [intOf];omega
  ·have hK2:=unhide hK
   rw [unhide HD2 j (by omega)] at hK2
   have HK2:=hide hK2
   have HF2:=hide ((unhide F1).trans (unhide hF))
   have hlp:j = m:=by omega
   clear hK hF K1 F1 LR RB HWK hK2
   have hE:dEnd fs 2 s m ne d2 = d2:=by unfold dEnd;rw [if_neg (by decide),if_neg (by decide),if_neg (by decide)]
   have HEQ:=hide hE
   clear hE
   go_wp2_with fail
   go_end0
   exact ⟨rfl,by rw [unhide HEQ];exact unhide HK2,unhide HF2⟩
set_option maxHeartbeats 4000000 in
theorem walk_use19 {F:Nat} {o n:Int} {s:ByteArray} {l:List PN} {v:Value} (hfl:fs.length ≤ 100000) (hps:∀ p ∈ fs,p.ps.length ≤ 100000) (hw:∀ x ∈ l,WkOf g fv fs F x) (h:CK g w fv fs d) (hr:RepN w (fun b => b < g) ⟨19,o,s,n,l⟩ v) (he:d.e = 0) (hb1:d.see.length + nszL l < 100000) (hb2:d.sl.length + nszL l < 100000) (hb3:d.cl.length + nszL l < 100000) (hb4:0 ≤ d.lp) (hb5:d.lp + nszL l < 100000) (hb6:0 ≤ d.lc) (hb7:d.lc + nszL l < 100000) (hll:l.length ≤ 100000) :
  Calls Tryz.prog 17 #[.pointer (some ⟨g,0,none⟩),v] w (CAns g w fv fs (dEnd fs 19 s l.length d.see.length (l.foldl (fun d x => dW fs F x d) (dBeg 19 s d)))):=by
 have hg:=h.lt
 rw [RepN] at hr
 obtain ⟨a,cap,rfl,hcap,hl⟩:=hr
 have hlenz:∀ j,nszL (l.take j) ≤ nszL l:=fun j => by
  have h9:=nszL_append (l.take j) (l.drop j)
  rw [List.take_append_drop] at h9
  omega
 have hatz:∀ (j:Nat) (x:PN),l[j]? = some x → nszL (l.take j) + nsz x ≤ nszL l:=fun j x hx => by
  have hlt:=(List.getElem?_eq_some_iff.1 hx).1
  have h9:=nszL_append (l.take j) (l.drop j)
  rw [List.take_append_drop,List.drop_eq_getElem_cons hlt,(List.getElem?_eq_some_iff.1 hx).2,nszL] at h9
  omega
 have hbg:dBeg 19 s d = d.use s:=by unfold dBeg;rw [if_pos (by decide)]
 rw [hbg]
 obtain ⟨mk,hmk⟩:∃ mk,mk = d.see.length:=⟨_,rfl⟩
 rw [← hmk]
 have X0:Ext w (w.alloc (nodO 19 o s n (.slice a l.length cap))):=Ext.alloc _ _
 have HB:=hide (Go.heap_alloc_new w (nodO 19 o s n (.slice a l.length cap)))
 have HL0:=hide ((CF.of hg X0).repL hl)
 have HK0:=hide (h.ext X0)
 have HX0:=hide (CF.of hg X0)
 have HU:=hide (use_c (h.ext X0) he (by omega) (by omega) s)
 obtain ⟨u1,u2,u3,u4,u5⟩:=use_le d s
 obtain ⟨d0,hd0⟩:∃ d0,d0 = (d.use s):=⟨_,rfl⟩
 rw [← hd0] at HU u1 u2 u3 u4 u5 ⊢
 have hs0:d0.see = d.see:=u3
 have hs1:d0.sl.length ≤ d.sl.length + 1:=u1
 have hs2:d0.cl = d.cl:=u2
 have hs3:d0.lc = d.lc:=u4
 have hs4:d0.lp = d.lp:=u5
 have HFO:=hide (fun (j:Nat) => fold_le fs F (fun q e => dW_le fs F q e) (l.take j) d0)
 have HPRE:=hide (fold_pre fs F (fun q e => dW_pre fs F q e) l d0)
 have hwk:∀ (wr:World) (j:Nat) (x:PN) (u:Value),l[j]? = some x → CK g wr fv fs ((l.take j).foldl (fun d x => dW fs F x d) d0) → RepN wr (fun b => b < g) x u → Calls Tryz.prog 17 #[.pointer (some ⟨g,0,none⟩),u] wr (CAns g wr fv fs ((l.take (j + 1)).foldl (fun d x => dW fs F x d) d0)):=fun wr j x u hx k r => by
  have hlt:=(List.getElem?_eq_some_iff.1 hx).1
  have e9:l.take (j + 1) = l.take j ++ [x]:=by rw [List.take_succ_eq_append_getElem hlt,(List.getElem?_eq_some_iff.1 hx).2]
  rw [e9,List.foldl_append,List.foldl_cons,List.foldl_nil]
  have f9:=unhide HFO j
  have z9:=hatz j x hx
  have f1:=f9.see
  have f2:=f9.sl
  have f3:=f9.cl
  have f4:=f9.lc
  have f5:=f9.lc0
  have f6:=f9.lp
  rw [hs0] at f1
  rw [hs2] at f3
  rw [hs3] at f4 f5
  rw [hs4] at f6
  exact hw x (List.mem_of_getElem? hx) wr _ u k r (by omega) (by omega) (by omega) (by omega) (by omega) (by omega) (by omega)
 have HWK:=hide hwk
 obtain ⟨sa,ns,sc,ca,nc,cc,ea,ne,ec,h⟩:=h
 have hne:=h.hne
 have hrow:=h.row
 rw [he] at hrow
 obtain ⟨c0,c1,c2,c3,c4,c5,c6,zf⟩:=ck_c hrow
 obtain ⟨d2,hd2⟩:∃ d2,d2 = l.foldl (fun d x => dW fs F x d) d0:=⟨_,rfl⟩
 rw [← hd2]
 have HD2:Hd (∀ j,j = l.length → (l.take j).foldl (fun d x => dW fs F x d) d0 = d2):=fun j hj => by rw [hj,List.take_length,hd2]
 have hpre:d.see.length ≤ d2.see.length:=by
  have h9:=(unhide HPRE).length_le
  rw [← hd2,hs0] at h9
  exact h9
 have hall:=unhide HFO l.length
 rw [List.take_length,← hd2] at hall
 have A1:=hall.see
 have A2:=hall.sl
 have A3:=hall.cl
 have A4:=hall.lc
 have A5:=hall.lc0
 rw [hs0] at A1
 rw [hs2] at A3
 rw [hs3] at A4 A5
 rw [hne] at hpre A1 hmk
 have hmk2:=hmk.symm
 clear hmk
 subst hmk2
 clear h hrow hl X0 hd2 hwk hw hlenz hatz hbg HFO HPRE hall he
 generalize hM:l.length = m at *
 have hwg:(w.heap.size == g) = false:=by simp;omega
 go_enter Tryz.func17,Tryz.ntmps17
 go_wp2_with (go_at_call 37;refine Calls.mono (unhide HU) ?_;rintro e W1 ⟨rfl,hk,hcf⟩;have K1:=hide hk;have F1:=hide ((unhide HX0).trans hcf);have RB:=hide (hcf.rowN (by show w.heap.size ≠ g;omega) (unhide HB));have LR:=hide (hcf.repL (unhide HL0));clear hk hcf)
 clear HK0 HX0 HB HL0 hd0 c0 c1 c2 c3 c4 c5 c6 zf
 go_loopw [5] (fun t wr => ∃ (j:Nat),t = .int .i64 j ∧ j ≤ m ∧ Hd (CF g W1 wr) ∧ Hd (CK g wr fv fs ((l.take j).foldl (fun d x => dW fs F x d) d0))) (fun t _ => m - (intOf t).toNat)
 case atStart => exact ⟨0,rfl,Nat.zero_le _,CF.refl _ _,by rw [Hd,List.take_zero];exact unhide K1⟩
 case round =>
  obtain ⟨j,rfl,hj,hF,hK⟩:=hrel
  have hRB:=(unhide hF).rowN (by show w.heap.size ≠ g;omega) (unhide RB)
  have b0:=rowC hRB 0 rfl
  have b1:=rowC hRB 1 rfl
  have b2:=rowC hRB 2 rfl
  have b3:=rowC hRB 3 rfl
  have b4:=rowC hRB 4 rfl
  clear hRB
  by_cases hlt:j < m
  ·obtain ⟨x,hx⟩:∃ x,l[j]? = some x:=⟨_,List.getElem?_eq_getElem (by omega)⟩
   obtain ⟨b,off,x0,x1,x2,x3,x4,rfl,hbl,r,e0,e1,e2,e3,e4⟩:=repNL_at ((unhide hF).repL (unhide LR)) j x hx
   have HX:=hide (unhide HWK wr j x _ hx (unhide hK) r)
   clear r hx hbl
   go_wp2_with (go_at_call 17;refine Calls.mono (unhide HX) ?_;rintro e w2 ⟨rfl,hk,hcf⟩;have K2:=hide hk;have F2:=hide ((unhide hF).trans hcf);clear hk hcf)
   go_roundw
   case rel => exact ⟨j + 1,by go_num,by omega,F2,K2⟩
   case measure => simp [intOf];omega
  ·have hK2:=unhide hK
   rw [unhide HD2 j (by omega)] at hK2
   have HK2:=hide hK2
   have HF2:=hide ((unhide F1).trans (unhide hF))
   have hlp:j = m:=by omega
   clear hK hF K1 F1 LR RB HWK hK2
   have hE:dEnd fs 19 s m ne d2 = d2:=by unfold dEnd;rw [if_neg (by decide),if_neg (by decide),if_neg (by decide)]
   have HEQ:=hide hE
   clear hE
   go_wp2_with fail
   go_end0
   exact ⟨rfl,by rw [unhide HEQ];exact unhide HK2,unhide HF2⟩
set_option maxHeartbeats 4000000 in
theorem walk_other {F:Nat} {k o n:Int} {s:ByteArray} {l:List PN} {v:Value} (hk1:¬ k = 1) (hk2:¬ (k = 2 ∨ k = 19)) (hk4:¬ k = 4) (hk5:¬ (k = 5 ∨ k = 6)) (hk10:¬ k = 10) (hk20:¬ k = 20) (hfl:fs.length ≤ 100000) (hps:∀ p ∈ fs,p.ps.length ≤ 100000) (hw:∀ x ∈ l,WkOf g fv fs F x) (h:CK g w fv fs d) (hr:RepN w (fun b => b < g) ⟨k,o,s,n,l⟩ v) (he:d.e = 0) (hb1:d.see.length + nszL l < 100000) (hb2:d.sl.length + nszL l < 100000) (hb3:d.cl.length + nszL l < 100000) (hb4:0 ≤ d.lp) (hb5:d.lp + nszL l < 100000) (hb6:0 ≤ d.lc) (hb7:d.lc + nszL l < 100000) (hll:l.length ≤ 100000) :
  Calls Tryz.prog 17 #[.pointer (some ⟨g,0,none⟩),v] w (CAns g w fv fs (dEnd fs k s l.length d.see.length (l.foldl (fun d x => dW fs F x d) (dBeg k s d)))):=by
 have hg:=h.lt
 have kf1:(k == 1) = false:=by simpa using hk1
 have kf2:(k == 2) = false:=by simp;intro e;exact hk2 (Or.inl e)
 have kf19:(k == 19) = false:=by simp;intro e;exact hk2 (Or.inr e)
 have kf4:(k == 4) = false:=by simpa using hk4
 have kf5:(k == 5) = false:=by simp;intro e;exact hk5 (Or.inl e)
 have kf6:(k == 6) = false:=by simp;intro e;exact hk5 (Or.inr e)
 have kf10:(k == 10) = false:=by simpa using hk10
 have kf20:(k == 20) = false:=by simpa using hk20
 rw [RepN] at hr
 obtain ⟨a,cap,rfl,hcap,hl⟩:=hr
 have hlenz:∀ j,nszL (l.take j) ≤ nszL l:=fun j => by
  have h9:=nszL_append (l.take j) (l.drop j)
  rw [List.take_append_drop] at h9
  omega
 have hatz:∀ (j:Nat) (x:PN),l[j]? = some x → nszL (l.take j) + nsz x ≤ nszL l:=fun j x hx => by
  have hlt:=(List.getElem?_eq_some_iff.1 hx).1
  have h9:=nszL_append (l.take j) (l.drop j)
  rw [List.take_append_drop,List.drop_eq_getElem_cons hlt,(List.getElem?_eq_some_iff.1 hx).2,nszL] at h9
  omega
 have hbg:dBeg k s d = d:=by unfold dBeg;rw [if_neg (by exact hk2)]
 rw [hbg]
 obtain ⟨mk,hmk⟩:∃ mk,mk = d.see.length:=⟨_,rfl⟩
 rw [← hmk]
 have X0:Ext w (w.alloc (nodO k o s n (.slice a l.length cap))):=Ext.alloc _ _
 have HB:=hide (Go.heap_alloc_new w (nodO k o s n (.slice a l.length cap)))
 have HL0:=hide ((CF.of hg X0).repL hl)
 have HK0:=hide (h.ext X0)
 have HX0:=hide (CF.of hg X0)
 obtain ⟨d0,hd0⟩:∃ d0,d0 = d:=⟨_,rfl⟩
 rw [← hd0]
 have hs0:d0.see = d.see:=by rw [hd0]
 have hs1:d0.sl.length ≤ d.sl.length + 1:=by rw [hd0];omega
 have hs2:d0.cl = d.cl:=by rw [hd0]
 have hs3:d0.lc = d.lc:=by rw [hd0]
 have hs4:d0.lp = d.lp:=by rw [hd0]
 have HFO:=hide (fun (j:Nat) => fold_le fs F (fun q e => dW_le fs F q e) (l.take j) d0)
 have HPRE:=hide (fold_pre fs F (fun q e => dW_pre fs F q e) l d0)
 have hwk:∀ (wr:World) (j:Nat) (x:PN) (u:Value),l[j]? = some x → CK g wr fv fs ((l.take j).foldl (fun d x => dW fs F x d) d0) → RepN wr (fun b => b < g) x u → Calls Tryz.prog 17 #[.pointer (some ⟨g,0,none⟩),u] wr (CAns g wr fv fs ((l.take (j + 1)).foldl (fun d x => dW fs F x d) d0)):=fun wr j x u hx k r => by
  have hlt:=(List.getElem?_eq_some_iff.1 hx).1
  have e9:l.take (j + 1) = l.take j ++ [x]:=by rw [List.take_succ_eq_append_getElem hlt,(List.getElem?_eq_some_iff.1 hx).2]
  rw [e9,List.foldl_append,List.foldl_cons,List.foldl_nil]
  have f9:=unhide HFO j
  have z9:=hatz j x hx
  have f1:=f9.see
  have f2:=f9.sl
  have f3:=f9.cl
  have f4:=f9.lc
  have f5:=f9.lc0
  have f6:=f9.lp
  rw [hs0] at f1
  rw [hs2] at f3
  rw [hs3] at f4 f5
  rw [hs4] at f6
  exact hw x (List.mem_of_getElem? hx) wr _ u k r (by omega) (by omega) (by omega) (by omega) (by omega) (by omega) (by omega)
 have HWK:=hide hwk
 obtain ⟨sa,ns,sc,ca,nc,cc,ea,ne,ec,h⟩:=h
 have hne:=h.hne
 have hrow:=h.row
 rw [he] at hrow
 obtain ⟨c0,c1,c2,c3,c4,c5,c6,zf⟩:=ck_c hrow
 obtain ⟨d2,hd2⟩:∃ d2,d2 = l.foldl (fun d x => dW fs F x d) d0:=⟨_,rfl⟩
 rw [← hd2]
 have HD2:Hd (∀ j,j = l.length → (l.take j).foldl (fun d x => dW fs F x d) d0 = d2):=fun j hj => by rw [hj,List.take_length,hd2]
 have hpre:d.see.length ≤ d2.see.length:=by
  have h9:=(unhide HPRE).length_le
  rw [← hd2,hs0] at h9
  exact h9
 have hall:=unhide HFO l.length
 rw [List.take_length,← hd2] at hall
 have A1:=hall.see
 have A2:=hall.sl
 have A3:=hall.cl
 have A4:=hall.lc
 have A5:=hall.lc0
 rw [hs0] at A1
 rw [hs2] at A3
 rw [hs3] at A4 A5
 rw [hne] at hpre A1 hmk
 have hmk2:=hmk.symm
 clear hmk
 subst hmk2
 clear h hrow hl X0 hd2 hwk hw hlenz hatz hbg HFO HPRE hall he
 generalize hM:l.length = m at *
 have hwg:(w.heap.size == g) = false:=by simp;omega
 go_enter Tryz.func17,Tryz.ntmps17
 go_wp2_with fail
 obtain ⟨W1,hW1⟩:∃ W1,W1 = w.alloc (nodO k o s n (.slice a m cap)):=⟨_,rfl⟩
 have K1:Hd (CK g W1 fv fs d0):=by rw [Hd,hW1,hd0];exact unhide HK0
 have F1:Hd (CF g w W1):=by rw [Hd,hW1];exact unhide HX0
 have RB:Hd (W1.heap[w.heap.size]? = some (nodO k o s n (.slice a m cap))):=by rw [Hd,hW1];exact unhide HB
 have LR:Hd (RepNL W1 (fun b => b < g) l a):=by rw [Hd,hW1];exact unhide HL0
 rw [← hW1]
 clear hW1
 clear HK0 HX0 HB HL0 hd0 c0 c1 c2 c3 c4 c5 c6 zf
 go_loopw [5] (fun t wr => ∃ (j:Nat),t = .int .i64 j ∧ j ≤ m ∧ Hd (CF g W1 wr) ∧ Hd (CK g wr fv fs ((l.take j).foldl (fun d x => dW fs F x d) d0))) (fun t _ => m - (intOf t).toNat)
 case atStart => exact ⟨0,rfl,Nat.zero_le _,CF.refl _ _,by rw [Hd,List.take_zero];exact unhide K1⟩
 case round =>
  obtain ⟨j,rfl,hj,hF,hK⟩:=hrel
  have hRB:=(unhide hF).rowN (by show w.heap.size ≠ g;omega) (unhide RB)
  have b0:=rowC hRB 0 rfl
  have b1:=rowC hRB 1 rfl
  have b2:=rowC hRB 2 rfl
  have b3:=rowC hRB 3 rfl
  have b4:=rowC hRB 4 rfl
  clear hRB
  by_cases hlt:j < m
  ·obtain ⟨x,hx⟩:∃ x,l[j]? = some x:=⟨_,List.getElem?_eq_getElem (by omega)⟩
   obtain ⟨b,off,x0,x1,x2,x3,x4,rfl,hbl,r,e0,e1,e2,e3,e4⟩:=repNL_at ((unhide hF).repL (unhide LR)) j x hx
   have HX:=hide (unhide HWK wr j x _ hx (unhide hK) r)
   clear r hx hbl
   go_wp2_with (go_at_call 17;refine Calls.mono (unhide HX) ?_;rintro e w2 ⟨rfl,hk,hcf⟩;have K2:=hide hk;have F2:=hide ((unhide hF).trans hcf);clear hk hcf)
   go_roundw
   case rel => exact ⟨j + 1,by go_num,by omega,F2,K2⟩
   case measure => simp [intOf];omega
  ·have hK2:=unhide hK
   rw [unhide HD2 j (by omega)] at hK2
   have HK2:=hide hK2
   have HF2:=hide ((unhide F1).trans (unhide hF))
   have hlp:j = m:=by omega
   clear hK hF K1 F1 LR RB HWK hK2
   have hE:dEnd fs k s m ne d2 = d2:=by unfold dEnd;rw [if_neg (by exact hk1),if_neg (by exact hk10),if_neg (by exact hk20)]
   have HEQ:=hide hE
   clear hE
   go_wp2_with fail
   go_end0
   exact ⟨rfl,by rw [unhide HEQ];exact unhide HK2,unhide HF2⟩
end Go.Proofs.YtgkdmgndebifiaaGreatDoor
namespace Go.Proofs.YtgkdmgndebifiaaGreatDoor
open Go.RowKit Go.Maps
variable {g:Nat} {w w' w2:World} {fv:Value} {fs:List PFn} {d:DK}
set_option maxHeartbeats 4000000 in
theorem walk_block {F:Nat} {o n:Int} {s:ByteArray} {l:List PN} {v:Value} (hfl:fs.length ≤ 100000) (hps:∀ p ∈ fs,p.ps.length ≤ 100000) (hw:∀ x ∈ l,WkOf g fv fs F x) (h:CK g w fv fs d) (hr:RepN w (fun b => b < g) ⟨10,o,s,n,l⟩ v) (he:d.e = 0) (hb1:d.see.length + nszL l < 100000) (hb2:d.sl.length + nszL l < 100000) (hb3:d.cl.length + nszL l < 100000) (hb4:0 ≤ d.lp) (hb5:d.lp + nszL l < 100000) (hb6:0 ≤ d.lc) (hb7:d.lc + nszL l < 100000) (hll:l.length ≤ 100000) :
  Calls Tryz.prog 17 #[.pointer (some ⟨g,0,none⟩),v] w (CAns g w fv fs (dEnd fs 10 s l.length d.see.length (l.foldl (fun d x => dW fs F x d) (dBeg 10 s d)))):=by
 have hg:=h.lt
 rw [RepN] at hr
 obtain ⟨a,cap,rfl,hcap,hl⟩:=hr
 have hlenz:∀ j,nszL (l.take j) ≤ nszL l:=fun j => by
  have h9:=nszL_append (l.take j) (l.drop j)
  rw [List.take_append_drop] at h9
  omega
 have hatz:∀ (j:Nat) (x:PN),l[j]? = some x → nszL (l.take j) + nsz x ≤ nszL l:=fun j x hx => by
  have hlt:=(List.getElem?_eq_some_iff.1 hx).1
  have h9:=nszL_append (l.take j) (l.drop j)
  rw [List.take_append_drop,List.drop_eq_getElem_cons hlt,(List.getElem?_eq_some_iff.1 hx).2,nszL] at h9
  omega
 have hbg:dBeg 10 s d = d:=by unfold dBeg;rw [if_neg (by decide)]
 rw [hbg]
 obtain ⟨mk,hmk⟩:∃ mk,mk = d.see.length:=⟨_,rfl⟩
 rw [← hmk]
 have X0:Ext w (w.alloc (nodO 10 o s n (.slice a l.length cap))):=Ext.alloc _ _
 have HB:=hide (Go.heap_alloc_new w (nodO 10 o s n (.slice a l.length cap)))
 have HL0:=hide ((CF.of hg X0).repL hl)
 have HK0:=hide (h.ext X0)
 have HX0:=hide (CF.of hg X0)
 obtain ⟨d0,hd0⟩:∃ d0,d0 = d:=⟨_,rfl⟩
 rw [← hd0]
 have hs0:d0.see = d.see:=by rw [hd0]
 have hs1:d0.sl.length ≤ d.sl.length + 1:=by rw [hd0];omega
 have hs2:d0.cl = d.cl:=by rw [hd0]
 have hs3:d0.lc = d.lc:=by rw [hd0]
 have hs4:d0.lp = d.lp:=by rw [hd0]
 have HFO:=hide (fun (j:Nat) => fold_le fs F (fun q e => dW_le fs F q e) (l.take j) d0)
 have HPRE:=hide (fold_pre fs F (fun q e => dW_pre fs F q e) l d0)
 have hwk:∀ (wr:World) (j:Nat) (x:PN) (u:Value),l[j]? = some x → CK g wr fv fs ((l.take j).foldl (fun d x => dW fs F x d) d0) → RepN wr (fun b => b < g) x u → Calls Tryz.prog 17 #[.pointer (some ⟨g,0,none⟩),u] wr (CAns g wr fv fs ((l.take (j + 1)).foldl (fun d x => dW fs F x d) d0)):=fun wr j x u hx k r => by
  have hlt:=(List.getElem?_eq_some_iff.1 hx).1
  have e9:l.take (j + 1) = l.take j ++ [x]:=by rw [List.take_succ_eq_append_getElem hlt,(List.getElem?_eq_some_iff.1 hx).2]
  rw [e9,List.foldl_append,List.foldl_cons,List.foldl_nil]
  have f9:=unhide HFO j
  have z9:=hatz j x hx
  have f1:=f9.see
  have f2:=f9.sl
  have f3:=f9.cl
  have f4:=f9.lc
  have f5:=f9.lc0
  have f6:=f9.lp
  rw [hs0] at f1
  rw [hs2] at f3
  rw [hs3] at f4 f5
  rw [hs4] at f6
  exact hw x (List.mem_of_getElem? hx) wr _ u k r (by omega) (by omega) (by omega) (by omega) (by omega) (by omega) (by omega)
 have HWK:=hide hwk
 obtain ⟨sa,ns,sc,ca,nc,cc,ea,ne,ec,h⟩:=h
 have hne:=h.hne
 have hrow:=h.row
 rw [he] at hrow
 obtain ⟨c0,c1,c2,c3,c4,c5,c6,zf⟩:=ck_c hrow
 obtain ⟨d2,hd2⟩:∃ d2,d2 = l.foldl (fun d x => dW fs F x d) d0:=⟨_,rfl⟩
 rw [← hd2]
 have HD2:Hd (∀ j,j = l.length → (l.take j).foldl (fun d x => dW fs F x d) d0 = d2):=fun j hj => by rw [hj,List.take_length,hd2]
 have hpre:d.see.length ≤ d2.see.length:=by
  have h9:=(unhide HPRE).length_le
  rw [← hd2,hs0] at h9
  exact h9
 have hall:=unhide HFO l.length
 rw [List.take_length,← hd2] at hall
 have A1:=hall.see
 have A2:=hall.sl
 have A3:=hall.cl
 have A4:=hall.lc
 have A5:=hall.lc0
 rw [hs0] at A1
 rw [hs2] at A3
 rw [hs3] at A4 A5
 rw [hne] at hpre A1 hmk
 have hmk2:=hmk.symm
 clear hmk
 subst hmk2
 clear h hrow hl X0 hd2 hwk hw hlenz hatz hbg HFO HPRE hall he
 generalize hM:l.length = m at *
 have hwg:(w.heap.size == g) = false:=by simp;omega
 go_enter Tryz.func17,Tryz.ntmps17
 go_wp2_with fail
 obtain ⟨W1,hW1⟩:∃ W1,W1 = w.alloc (nodO 10 o s n (.slice a m cap)):=⟨_,rfl⟩
 have K1:Hd (CK g W1 fv fs d0):=by rw [Hd,hW1,hd0];exact unhide HK0
 have F1:Hd (CF g w W1):=by rw [Hd,hW1];exact unhide HX0
 have RB:Hd (W1.heap[w.heap.size]? = some (nodO 10 o s n (.slice a m cap))):=by rw [Hd,hW1];exact unhide HB
 have LR:Hd (RepNL W1 (fun b => b < g) l a):=by rw [Hd,hW1];exact unhide HL0
 rw [← hW1]
 clear hW1
 clear HK0 HX0 HB HL0 hd0 c0 c1 c2 c3 c4 c5 c6 zf
 go_loopw [5] (fun t wr => ∃ (j:Nat),t = .int .i64 j ∧ j ≤ m ∧ Hd (CF g W1 wr) ∧ Hd (CK g wr fv fs ((l.take j).foldl (fun d x => dW fs F x d) d0))) (fun t _ => m - (intOf t).toNat)
 case atStart => exact ⟨0,rfl,Nat.zero_le _,CF.refl _ _,by rw [Hd,List.take_zero];exact unhide K1⟩
 case round =>
  obtain ⟨j,rfl,hj,hF,hK⟩:=hrel
  have hRB:=(unhide hF).rowN (by show w.heap.size ≠ g;omega) (unhide RB)
  have b0:=rowC hRB 0 rfl
  have b1:=rowC hRB 1 rfl
  have b2:=rowC hRB 2 rfl
  have b3:=rowC hRB 3 rfl
  have b4:=rowC hRB 4 rfl
  clear hRB
  by_cases hlt:j < m
  ·obtain ⟨x,hx⟩:∃ x,l[j]? = some x:=⟨_,List.getElem?_eq_getElem (by omega)⟩
   obtain ⟨b,off,x0,x1,x2,x3,x4,rfl,hbl,r,e0,e1,e2,e3,e4⟩:=repNL_at ((unhide hF).repL (unhide LR)) j x hx
   have HX:=hide (unhide HWK wr j x _ hx (unhide hK) r)
   clear r hx hbl
   go_wp2_with (go_at_call 17;refine Calls.mono (unhide HX) ?_;rintro e w2 ⟨rfl,hk,hcf⟩;have K2:=hide hk;have F2:=hide ((unhide hF).trans hcf);clear hk hcf)
   go_roundw
   case rel => exact ⟨j + 1,by go_num,by omega,F2,K2⟩
   case measure => simp [intOf];omega
  ·have hK2:=unhide hK
   rw [unhide HD2 j (by omega)] at hK2
   have HK2:=hide hK2
   have HF2:=hide ((unhide F1).trans (unhide hF))
   have hlp:j = m:=by omega
   clear hK hF K1 F1 LR RB HWK hK2
   have hE:dEnd fs 10 s m ne d2 = { d2 with see:=d2.see.take ne }:=by unfold dEnd;rw [if_neg (by decide),if_pos rfl]
   have HEQ:=hide hE
   obtain ⟨sa2,ns2,sc2,ca2,nc2,cc2,ea2,ne2,ec2,hS⟩:=unhide HK2
   have hne2:=hS.hne
   have hcut:=hS.cut ne (by omega)
   have HC:=hide hcut
   obtain ⟨c0,c1,c2,c3,c4,c5,c6,zf⟩:=ck_c hS.row
   have hnn:ne ≤ ne2:=by omega
   have hn9:ne2 ≤ 100000:=by omega
   clear hE
   rcases hS.ose.2 with ⟨q1,q2⟩ | ⟨bb,cap2,cur,q1,q2,q3,q4,q5,q6,q7⟩
   ·injection q1 with q1 q8 q9
    subst q1 q9
    obtain rfl:ne2 = 0:=q2
    obtain rfl:ne = 0:=by omega
    clear hS hcut
    go_wp2_with fail
    go_end0
    exact ⟨rfl,by rw [unhide HEQ];exact ⟨_,_,_,_,_,_,_,_,_,unhide HC⟩,(unhide HF2).set 4 _⟩
   ·injection q1 with q1 q8 q9
    subst q1 q9
    have hec2:ne ≤ ec2:=by omega
    have hec3:ec2 ≤ 9223372036854775807:=by unfold maxLen at q5;omega
    clear hS hcut q2 q3 q4 q5 q6 q7 q8
    go_wp2_with fail
    go_end0
    exact ⟨rfl,by rw [unhide HEQ];exact ⟨_,_,_,_,_,_,_,_,_,unhide HC⟩,(unhide HF2).set 4 _⟩
set_option maxHeartbeats 4000000 in
theorem walk_call {F:Nat} {o n:Int} {s:ByteArray} {l:List PN} {v:Value} (hfl:fs.length ≤ 100000) (hps:∀ p ∈ fs,p.ps.length ≤ 100000) (hw:∀ x ∈ l,WkOf g fv fs F x) (h:CK g w fv fs d) (hr:RepN w (fun b => b < g) ⟨20,o,s,n,l⟩ v) (he:d.e = 0) (hb1:d.see.length + nszL l < 100000) (hb2:d.sl.length + nszL l < 100000) (hb3:d.cl.length + nszL l < 100000) (hb4:0 ≤ d.lp) (hb5:d.lp + nszL l < 100000) (hb6:0 ≤ d.lc) (hb7:d.lc + nszL l < 100000) (hll:l.length ≤ 100000) :
  Calls Tryz.prog 17 #[.pointer (some ⟨g,0,none⟩),v] w (CAns g w fv fs (dEnd fs 20 s l.length d.see.length (l.foldl (fun d x => dW fs F x d) (dBeg 20 s d)))):=by
 have hg:=h.lt
 rw [RepN] at hr
 obtain ⟨a,cap,rfl,hcap,hl⟩:=hr
 have hlenz:∀ j,nszL (l.take j) ≤ nszL l:=fun j => by
  have h9:=nszL_append (l.take j) (l.drop j)
  rw [List.take_append_drop] at h9
  omega
 have hatz:∀ (j:Nat) (x:PN),l[j]? = some x → nszL (l.take j) + nsz x ≤ nszL l:=fun j x hx => by
  have hlt:=(List.getElem?_eq_some_iff.1 hx).1
  have h9:=nszL_append (l.take j) (l.drop j)
  rw [List.take_append_drop,List.drop_eq_getElem_cons hlt,(List.getElem?_eq_some_iff.1 hx).2,nszL] at h9
  omega
 have hbg:dBeg 20 s d = d:=by unfold dBeg;rw [if_neg (by decide)]
 rw [hbg]
 obtain ⟨mk,hmk⟩:∃ mk,mk = d.see.length:=⟨_,rfl⟩
 rw [← hmk]
 have X0:Ext w (w.alloc (nodO 20 o s n (.slice a l.length cap))):=Ext.alloc _ _
 have HB:=hide (Go.heap_alloc_new w (nodO 20 o s n (.slice a l.length cap)))
 have HL0:=hide ((CF.of hg X0).repL hl)
 have HK0:=hide (h.ext X0)
 have HX0:=hide (CF.of hg X0)
 obtain ⟨d0,hd0⟩:∃ d0,d0 = d:=⟨_,rfl⟩
 rw [← hd0]
 have hs0:d0.see = d.see:=by rw [hd0]
 have hs1:d0.sl.length ≤ d.sl.length + 1:=by rw [hd0];omega
 have hs2:d0.cl = d.cl:=by rw [hd0]
 have hs3:d0.lc = d.lc:=by rw [hd0]
 have hs4:d0.lp = d.lp:=by rw [hd0]
 have HFO:=hide (fun (j:Nat) => fold_le fs F (fun q e => dW_le fs F q e) (l.take j) d0)
 have HPRE:=hide (fold_pre fs F (fun q e => dW_pre fs F q e) l d0)
 have hwk:∀ (wr:World) (j:Nat) (x:PN) (u:Value),l[j]? = some x → CK g wr fv fs ((l.take j).foldl (fun d x => dW fs F x d) d0) → RepN wr (fun b => b < g) x u → Calls Tryz.prog 17 #[.pointer (some ⟨g,0,none⟩),u] wr (CAns g wr fv fs ((l.take (j + 1)).foldl (fun d x => dW fs F x d) d0)):=fun wr j x u hx k r => by
  have hlt:=(List.getElem?_eq_some_iff.1 hx).1
  have e9:l.take (j + 1) = l.take j ++ [x]:=by rw [List.take_succ_eq_append_getElem hlt,(List.getElem?_eq_some_iff.1 hx).2]
  rw [e9,List.foldl_append,List.foldl_cons,List.foldl_nil]
  have f9:=unhide HFO j
  have z9:=hatz j x hx
  have f1:=f9.see
  have f2:=f9.sl
  have f3:=f9.cl
  have f4:=f9.lc
  have f5:=f9.lc0
  have f6:=f9.lp
  rw [hs0] at f1
  rw [hs2] at f3
  rw [hs3] at f4 f5
  rw [hs4] at f6
  exact hw x (List.mem_of_getElem? hx) wr _ u k r (by omega) (by omega) (by omega) (by omega) (by omega) (by omega) (by omega)
 have HWK:=hide hwk
 obtain ⟨sa,ns,sc,ca,nc,cc,ea,ne,ec,h⟩:=h
 have hne:=h.hne
 have hrow:=h.row
 rw [he] at hrow
 obtain ⟨c0,c1,c2,c3,c4,c5,c6,zf⟩:=ck_c hrow
 obtain ⟨d2,hd2⟩:∃ d2,d2 = l.foldl (fun d x => dW fs F x d) d0:=⟨_,rfl⟩
 rw [← hd2]
 have HD2:Hd (∀ j,j = l.length → (l.take j).foldl (fun d x => dW fs F x d) d0 = d2):=fun j hj => by rw [hj,List.take_length,hd2]
 have hpre:d.see.length ≤ d2.see.length:=by
  have h9:=(unhide HPRE).length_le
  rw [← hd2,hs0] at h9
  exact h9
 have hall:=unhide HFO l.length
 rw [List.take_length,← hd2] at hall
 have A1:=hall.see
 have A2:=hall.sl
 have A3:=hall.cl
 have A4:=hall.lc
 have A5:=hall.lc0
 rw [hs0] at A1
 rw [hs2] at A3
 rw [hs3] at A4 A5
 rw [hne] at hpre A1 hmk
 have hmk2:=hmk.symm
 clear hmk
 subst hmk2
 clear h hrow hl X0 hd2 hwk hw hlenz hatz hbg HFO HPRE hall he
 generalize hM:l.length = m at *
 have hwg:(w.heap.size == g) = false:=by simp;omega
 go_enter Tryz.func17,Tryz.ntmps17
 go_wp2_with fail
 obtain ⟨W1,hW1⟩:∃ W1,W1 = w.alloc (nodO 20 o s n (.slice a m cap)):=⟨_,rfl⟩
 have K1:Hd (CK g W1 fv fs d0):=by rw [Hd,hW1,hd0];exact unhide HK0
 have F1:Hd (CF g w W1):=by rw [Hd,hW1];exact unhide HX0
 have RB:Hd (W1.heap[w.heap.size]? = some (nodO 20 o s n (.slice a m cap))):=by rw [Hd,hW1];exact unhide HB
 have LR:Hd (RepNL W1 (fun b => b < g) l a):=by rw [Hd,hW1];exact unhide HL0
 rw [← hW1]
 clear hW1
 clear HK0 HX0 HB HL0 hd0 c0 c1 c2 c3 c4 c5 c6 zf
 go_loopw [5] (fun t wr => ∃ (j:Nat),t = .int .i64 j ∧ j ≤ m ∧ Hd (CF g W1 wr) ∧ Hd (CK g wr fv fs ((l.take j).foldl (fun d x => dW fs F x d) d0))) (fun t _ => m - (intOf t).toNat)
 case atStart => exact ⟨0,rfl,Nat.zero_le _,CF.refl _ _,by rw [Hd,List.take_zero];exact unhide K1⟩
 case round =>
  obtain ⟨j,rfl,hj,hF,hK⟩:=hrel
  have hRB:=(unhide hF).rowN (by show w.heap.size ≠ g;omega) (unhide RB)
  have b0:=rowC hRB 0 rfl
  have b1:=rowC hRB 1 rfl
  have b2:=rowC hRB 2 rfl
  have b3:=rowC hRB 3 rfl
  have b4:=rowC hRB 4 rfl
  clear hRB
  by_cases hlt:j < m
  ·obtain ⟨x,hx⟩:∃ x,l[j]? = some x:=⟨_,List.getElem?_eq_getElem (by omega)⟩
   obtain ⟨b,off,x0,x1,x2,x3,x4,rfl,hbl,r,e0,e1,e2,e3,e4⟩:=repNL_at ((unhide hF).repL (unhide LR)) j x hx
   have HX:=hide (unhide HWK wr j x _ hx (unhide hK) r)
   clear r hx hbl
   go_wp2_with (go_at_call 17;refine Calls.mono (unhide HX) ?_;rintro e w2 ⟨rfl,hk,hcf⟩;have K2:=hide hk;have F2:=hide ((unhide hF).trans hcf);clear hk hcf)
   go_roundw
   case rel => exact ⟨j + 1,by go_num,by omega,F2,K2⟩
   case measure => simp [intOf];omega
  ·have hK2:=unhide hK
   rw [unhide HD2 j (by omega)] at hK2
   have HK2:=hide hK2
   have HF2:=hide ((unhide F1).trans (unhide hF))
   have hlp:j = m:=by omega
   clear hK hF K1 F1 LR RB HWK hK2
   have hE:dEnd fs 20 s m ne d2 = d2.callD fs s m:=by unfold dEnd;rw [if_neg (by decide),if_neg (by decide),if_pos rfl]
   have HEQ:=hide hE
   have HCL:=hide (call_c (unhide HK2) (by omega) hfl 20 o n s a m cap (by omega) hps)
   clear hE
   go_wp2_with (go_at_call 38;refine Calls.mono (unhide HCL) ?_;rintro e w3 ⟨rfl,hk,hcf⟩;have K3:=hide hk;have F3:=hide ((unhide HF2).trans hcf);clear hk hcf)
   go_end0
   exact ⟨rfl,by rw [unhide HEQ];exact unhide K3,unhide F3⟩
end Go.Proofs.YtgkdmgndebifiaaGreatDoor
