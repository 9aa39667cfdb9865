/- ScopeTells: three ways through the law. -/
import Derived.Test.YtgkdmgndebifiaaGreatDoorZd39
import Derived.Test.YtgkdmgndebifiaaGreatDoorZd16
set_option linter.unusedSimpArgs false
set_option linter.unusedVariables false
set_option maxRecDepth 10000
namespace Go.Proofs.YtgkdmgndebifiaaGreatDoor
open Go.RowKit Go.Maps
set_option maxHeartbeats 4000000 in
theorem tells_bad (s:ByteArray) (w:World) (P E:Int) (hE:E ≠ 0) (hS:Calls Tryz.prog 4 #[.string s] w fun e w' => (∃ a cap b cap2,e = .returned (.tuple #[.slice a 0 cap,.slice b 0 cap2,.int .i64 P,.int .i64 E])) ∧ Ext w w')
  (hP:∀ W,Calls Tryz.prog 5 #[.string s] W fun e w' => e = .returned (tolV (.slice none 0 0) 0 0 emptyB 0 (.slice none 0 0) P E) ∧ Ext W w')
  (hA:∀ W,Ext w W → Calls Tryz.prog 6 #[] W fun e w' => e = .returned (.bool true) ∧ Ext W w') :
  Calls Tryz.prog 3 #[.string s] w fun e w' => e = .returned (.bool true) ∧ Ext w w':=by
 have HS:=hide hS
 have HPr:=hide hP
 have HAw:=hide hA
 have hEa:(E == 0) = false:=by simpa using hE
 have hEb:(E != 0) = true:=by simp [hE]
 clear hS hP hA
 go_enter Tryz.func3,Tryz.ntmps3
 go_wp2_with (first
  | (go_at_call 4;refine Calls.mono (unhide HS) ?_;rintro e w1 ⟨⟨a1,c1,a2,c2,rfl⟩,hw⟩;have X1:=hide hw;clear hw)
  | (go_at_call 5;refine Calls.mono (unhide HPr _) ?_;rintro e w2 ⟨rfl,hw⟩;have X2:=hide (((unhide X1).trans hw).trans (Ext.alloc _ (tolO (.slice none 0 0) 0 0 emptyB 0 (.slice none 0 0) P E)));clear hw)
  | (have T9:=unhide X2;go_at_call 6;refine Calls.mono (unhide HAw _ T9) ?_;rintro e w4 ⟨rfl,hw⟩;have X4:=hide (T9.trans hw);clear hw T9))
 go_ret
 exact ⟨rfl,unhide X4⟩
set_option maxHeartbeats 4000000 in
theorem tells_err (s:ByteArray) (w:World) (fl:List PFn) (E:Int) (hE:E ≠ 0) (hS:Calls Tryz.prog 4 #[.string s] w fun e w' => (∃ a cap b cap2,e = .returned (.tuple #[.slice a 0 cap,.slice b 0 cap2,.int .i64 0,.int .i64 E])) ∧ Ext w w')
  (hP:∀ W,Calls Tryz.prog 5 #[.string s] W fun e w' => ∃ a cap,e = .returned (tolV (.slice a fl.length cap) 0 0 emptyB 0 (.slice none 0 0) 0 0) ∧ fl.length ≤ cap ∧ RepFL w' (InW w') fl a ∧ Ext W w')
  (hC:∀ W a cap,fl.length ≤ cap → RepFL W (InW W) fl a → Calls Tryz.prog 7 #[.slice a fl.length cap] W fun e w' => (∃ b c2,e = .returned (.tuple #[.slice b 0 c2,.int .i64 E])) ∧ Ext W w')
  (hD:∀ W,Ext w W → ∀ a cap,fl.length ≤ cap → RepFL W (InW W) fl a → Calls Tryz.prog 8 #[.slice a fl.length cap] W fun e w' => (∃ b c2,e = .returned (.tuple #[.slice b 0 c2,.int .i64 E])) ∧ Ext W w')
  (hA:∀ W,Ext w W → Calls Tryz.prog 6 #[] W fun e w' => e = .returned (.bool true) ∧ Ext W w') :
  Calls Tryz.prog 3 #[.string s] w fun e w' => e = .returned (.bool true) ∧ Ext w w':=by
 have HS:=hide hS
 have HPr:=hide hP
 have HC:=hide hC
 have HD:=hide hD
 have HAw:=hide hA
 have hEa:(E == 0) = false:=by simpa using hE
 have hEb:(E != 0) = true:=by simp [hE]
 clear hS hP hA hC hD
 generalize fl.length = N at *
 go_enter Tryz.func3,Tryz.ntmps3
 go_wp2_with (first
  | (go_at_call 4;refine Calls.mono (unhide HS) ?_;rintro e w1 ⟨⟨a1,c1,a2,c2,rfl⟩,hw⟩;have X1:=hide hw;clear hw)
  | (go_at_call 5;refine Calls.mono (unhide HPr _) ?_;rintro e w2 ⟨a3,c3,rfl,hc3,hr,hw⟩;have X2:=hide (((unhide X1).trans hw).trans (Ext.alloc _ (tolO (.slice a3 N c3) 0 0 emptyB 0 (.slice none 0 0) 0 0)));have U2:=hide hr;clear hw hr)
  | (have T9:=unhide X2;go_at_call 7;refine Calls.mono (unhide HC _ _ _ hc3 ((unhide U2).inw (Ext.alloc _ (tolO (.slice a3 N c3) 0 0 emptyB 0 (.slice none 0 0) 0 0)))) ?_;rintro e w3 ⟨⟨a4,c4,rfl⟩,hw⟩;have X3:=hide (T9.trans hw);have U3:=hide (((unhide U2).inw (Ext.alloc _ (tolO (.slice a3 N c3) 0 0 emptyB 0 (.slice none 0 0) 0 0))).inw hw);have RT:=hide (hw.row (Go.heap_alloc_new w2 (tolO (.slice a3 N c3) 0 0 emptyB 0 (.slice none 0 0) 0 0)));have t0:=rowC (unhide RT) 0 rfl;have t1:=rowC (unhide RT) 1 rfl;have t2:=rowC (unhide RT) 2 rfl;have t3:=rowC (unhide RT) 3 rfl;have t4:=rowC (unhide RT) 4 rfl;have t5:=rowC (unhide RT) 5 rfl;have t6:=rowC (unhide RT) 6 rfl;have t7:=rowC (unhide RT) 7 rfl;clear hw T9)
  | (have T9:=unhide X3;go_at_call 8;refine Calls.mono (unhide HD _ T9 _ _ hc3 (unhide U3)) ?_;rintro e w4 ⟨⟨a5,c5,rfl⟩,hw⟩;have X4:=hide (T9.trans hw);clear hw T9)
  | (have T9:=unhide X4;go_at_call 6;refine Calls.mono (unhide HAw _ T9) ?_;rintro e w5 ⟨rfl,hw⟩;have X5:=hide (T9.trans hw);clear hw T9))
 go_ret
 exact ⟨rfl,unhide X5⟩
set_option maxHeartbeats 1000000 in
theorem tells_ok (s:ByteArray) (w:World) (fl:List PFn) (l:List PSc) (hb:∀ x ∈ l,x.sl.length ≤ 5000 ∧ x.cl.length ≤ 5000) (hln:l.length ≤ 100000) (hS:Calls Tryz.prog 4 #[.string s] w fun e w' => ∃ a cap b cap2,e = .returned (.tuple #[.slice a fl.length cap,.slice b l.length cap2,.int .i64 0,.int .i64 0]) ∧ RepFL w' (InW w') fl a ∧ RepSc w' (InW w') l b ∧ Ext w w')
  (hP:∀ W,Calls Tryz.prog 5 #[.string s] W fun e w' => ∃ a cap,e = .returned (tolV (.slice a fl.length cap) 0 0 emptyB 0 (.slice none 0 0) 0 0) ∧ fl.length ≤ cap ∧ RepFL w' (InW w') fl a ∧ Ext W w')
  (hC:∀ W a cap,fl.length ≤ cap → RepFL W (InW W) fl a → Calls Tryz.prog 7 #[.slice a fl.length cap] W fun e w' => ∃ b c2,e = .returned (.tuple #[.slice b l.length c2,.int .i64 0]) ∧ RepSc w' (InW w') l b ∧ Ext W w')
  (hD:∀ W,Ext w W → ∀ a cap,fl.length ≤ cap → RepFL W (InW W) fl a → Calls Tryz.prog 8 #[.slice a fl.length cap] W fun e w' => ∃ b c2,e = .returned (.tuple #[.slice b l.length c2,.int .i64 0]) ∧ RepSc w' (InW w') l b ∧ Ext W w')
  (hF:∀ W a b ca cb,RepFL W (InW W) fl a → RepFL W (InW W) fl b → Calls Tryz.prog 9 #[.slice a fl.length ca,.slice b fl.length cb] W fun e w' => e = .returned (.bool true) ∧ Ext W w')
  (hA:∀ W,Ext w W → Calls Tryz.prog 6 #[] W fun e w' => e = .returned (.bool true) ∧ Ext W w') :
  Calls Tryz.prog 3 #[.string s] w fun e w' => e = .returned (.bool true) ∧ Ext w w':=by
 have HS:=hide hS
 have HPr:=hide hP
 have HC:=hide hC
 have HD:=hide hD
 have HF:=hide hF
 have HAw:=hide hA
 have HB:=hide hb
 clear hS hP hA hC hD hF hb
 generalize fl.length = N at *
 generalize hLN:l.length = M at *
 go_enter Tryz.func3,Tryz.ntmps3
 go_wp2_with (first
  | (go_at_call 4;refine Calls.mono (unhide HS) ?_;rintro e w1 ⟨a1,c1,a2,c2,rfl,hr,hr2,hw⟩;have X1:=hide hw;have L1:=hide hr;have S1:=hide hr2;clear hw hr hr2)
  | (go_at_call 5;refine Calls.mono (unhide HPr _) ?_;rintro e w2 ⟨a3,c3,rfl,hc3,hr,hw⟩;have hw9:=hw.trans (Ext.alloc _ (tolO (.slice a3 N c3) 0 0 emptyB 0 (.slice none 0 0) 0 0));have X2:=hide ((unhide X1).trans hw9);have L2:=hide ((unhide L1).inw hw9);have S2:=hide ((unhide S1).inw hw9);have U2:=hide (hr.inw (Ext.alloc _ (tolO (.slice a3 N c3) 0 0 emptyB 0 (.slice none 0 0) 0 0)));clear hw hr hw9)
  | (have T9:=unhide X2;go_at_call 7;refine Calls.mono (unhide HC _ _ _ hc3 (unhide U2)) ?_;rintro e w3 ⟨a4,c4,rfl,hr,hw⟩;have X3:=hide (T9.trans hw);have L3:=hide ((unhide L2).inw hw);have S3:=hide ((unhide S2).inw hw);have U3:=hide ((unhide U2).inw hw);have V3:=hide hr;have RT:=hide (hw.row (Go.heap_alloc_new w2 (tolO (.slice a3 N c3) 0 0 emptyB 0 (.slice none 0 0) 0 0)));have t0:=rowC (unhide RT) 0 rfl;have t1:=rowC (unhide RT) 1 rfl;have t2:=rowC (unhide RT) 2 rfl;have t3:=rowC (unhide RT) 3 rfl;have t4:=rowC (unhide RT) 4 rfl;have t5:=rowC (unhide RT) 5 rfl;have t6:=rowC (unhide RT) 6 rfl;have t7:=rowC (unhide RT) 7 rfl;clear hw T9 hr)
  | (have T9:=unhide X3;go_at_call 8;refine Calls.mono (unhide HD _ T9 _ _ hc3 (unhide U3)) ?_;rintro e w4 ⟨a5,c5,rfl,hr,hw⟩;have X4:=hide (T9.trans hw);have L4:=hide ((unhide L3).inw hw);have S4:=hide ((unhide S3).inw hw);have U4:=hide ((unhide U3).inw hw);have V4:=hide ((unhide V3).inw hw);have Z4:=hide hr;have RT:=hide (hw.row (unhide RT));have t0:=rowC (unhide RT) 0 rfl;have t1:=rowC (unhide RT) 1 rfl;have t2:=rowC (unhide RT) 2 rfl;have t3:=rowC (unhide RT) 3 rfl;have t4:=rowC (unhide RT) 4 rfl;have t5:=rowC (unhide RT) 5 rfl;have t6:=rowC (unhide RT) 6 rfl;have t7:=rowC (unhide RT) 7 rfl;clear hw T9 hr)
  | (have T9:=unhide X4;go_at_call 9;refine Calls.mono (unhide HF _ _ _ _ _ (unhide L4) (unhide U4)) ?_;rintro e w5 ⟨rfl,hw⟩;have X5:=hide (T9.trans hw);have S5:=hide ((unhide S4).inw hw);have V5:=hide ((unhide V4).inw hw);have Z5:=hide ((unhide Z4).inw hw);clear hw T9))
 clear t0 t1 t2 t3 t4 t5 t6 t7
 go_loopw [12] (fun t wr => ∃ (k:Nat),t = .int .i64 k ∧ k ≤ M ∧ Hd (Ext w5 wr)) (fun t _ => M - (intOf t).toNat)
 case atStart => exact ⟨0,rfl,Nat.zero_le _,Ext.refl _⟩
 case round =>
  obtain ⟨k,rfl,hk,hX⟩:=hrel
  by_cases hlt:k < M
  ·obtain ⟨p,hp⟩:∃ p,l[k]? = some p:=⟨_,List.getElem?_eq_getElem (by omega)⟩
   obtain ⟨hb1,hb2⟩:=unhide HB p (List.mem_of_getElem? hp)
   obtain ⟨b1,sa1,sc1,ca1,cc1,rfl,xa0,xa1,xa2,ia,ja⟩:=((unhide S5).inw (unhide hX)).at k p hp
   obtain ⟨b2,sa2,sc2,ca2,cc2,rfl,xb0,xb1,xb2,ib,jb⟩:=((unhide V5).inw (unhide hX)).at k p hp
   obtain ⟨b3,sa3,sc3,ca3,cc3,rfl,xc0,xc1,xc2,ic,jc⟩:=((unhide Z5).inw (unhide hX)).at k p hp
   have H1:=hide (fun (W:World) (k:Ext wr W) => sameInts_w p.sl sa1 sa2 sc1 sc2 _ _ W (ia.inw k) (ib.inw k) (by omega))
   have H2:=hide (fun (W:World) (k:Ext wr W) => sameInts_w p.cl ca1 ca2 cc1 cc2 _ _ W (ja.inw k) (jb.inw k) (by omega))
   have H3:=hide (fun (W:World) (k:Ext wr W) => sameInts_w p.sl sa3 sa2 sc3 sc2 _ _ W (ic.inw k) (ib.inw k) (by omega))
   have HW:Nonempty (RGw wr):=⟨⟨wr,Ext.refl _⟩⟩
   have ka0:∀ y:RGw wr,y.w.cell? ⟨b1,k * 3,none⟩ = some (.int .i64 p.lc):=fun y => y.h.cell xa0
   have ka1:∀ y:RGw wr,y.w.cell? ⟨b1,k * 3 + 1,none⟩ = some (.slice sa1 p.sl.length sc1):=fun y => y.h.cell xa1
   have ka2:∀ y:RGw wr,y.w.cell? ⟨b1,k * 3 + 2,none⟩ = some (.slice ca1 p.cl.length cc1):=fun y => y.h.cell xa2
   have kb0:∀ y:RGw wr,y.w.cell? ⟨b2,k * 3,none⟩ = some (.int .i64 p.lc):=fun y => y.h.cell xb0
   have kb1:∀ y:RGw wr,y.w.cell? ⟨b2,k * 3 + 1,none⟩ = some (.slice sa2 p.sl.length sc2):=fun y => y.h.cell xb1
   have kb2:∀ y:RGw wr,y.w.cell? ⟨b2,k * 3 + 2,none⟩ = some (.slice ca2 p.cl.length cc2):=fun y => y.h.cell xb2
   have kc0:∀ y:RGw wr,y.w.cell? ⟨b3,k * 3,none⟩ = some (.int .i64 p.lc):=fun y => y.h.cell xc0
   have kc1:∀ y:RGw wr,y.w.cell? ⟨b3,k * 3 + 1,none⟩ = some (.slice sa3 p.sl.length sc3):=fun y => y.h.cell xc1
   clear xa0 xa1 xa2 xb0 xb1 xb2 xc0 xc1 xc2 ia ja ib jb ic jc hp hb1 hb2
   generalize p.sl.length = n1 at *
   generalize p.cl.length = n2 at *
   generalize p.lc = lc at *
   have HALL:Hd (∀ (u v:Value) (W:World),Ext wr W → ((u = .slice sa1 n1 sc1 ∧ v = .slice sa2 n1 sc2) ∨ (u = .slice ca1 n2 cc1 ∧ v = .slice ca2 n2 cc2) ∨ (u = .slice sa3 n1 sc3 ∧ v = .slice sa2 n1 sc2)) → Calls Tryz.prog 10 #[u,v] W fun e w' => e = .returned (.bool true) ∧ Ext W w'):=by
    rintro u v W x (⟨rfl,rfl⟩ | ⟨rfl,rfl⟩ | ⟨rfl,rfl⟩)
    ·exact unhide H1 W x
    ·exact unhide H2 W x
    ·exact unhide H3 W x
   clear H1 H2 H3
   go_wp2_with fail
   refine wp_region_rx (W:=wr) (by kernel_rfl) (by kernel_rfl) (Ext.refl _) ?_
   simp only [List.append_eq,List.cons_append,List.nil_append]
   repeat (go_big_quiet_step (first
    | (go_at_call 10;exact Calls.rx_of _ _ (unhide HALL _ _ _ (RGw.h _) (by first | exact Or.inl ⟨rfl,rfl⟩ | exact Or.inr (Or.inl ⟨rfl,rfl⟩) | exact Or.inr (Or.inr ⟨rfl,rfl⟩))))))
   refine wpQuiet_nil ?_
   rintro w6 ⟨n6,hn6⟩
   have X6:=hide ((unhide hX).trans (hn6 ▸ n6.h))
   clear hn6 n6
   go_wp2_with fail
   go_roundw
   case rel => exact ⟨k + 1,by go_num,by omega,X6⟩
   case measure => simp [intOf];omega
  ·have T8:=hide ((unhide X5).trans (unhide hX))
   go_wp2_with (go_at_call 6;refine Calls.mono (unhide HAw _ (unhide T8)) ?_;rintro e w7 ⟨rfl,hw⟩;have X7:=hide ((unhide T8).trans hw);clear hw)
   go_ret
   exact ⟨rfl,unhide X7⟩
end Go.Proofs.YtgkdmgndebifiaaGreatDoor
