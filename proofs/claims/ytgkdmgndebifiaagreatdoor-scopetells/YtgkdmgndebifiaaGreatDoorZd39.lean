/- Two rows of the same numbers are the same. · ScopeTells: what is read of a row. -/
import Derived.Test.YtgkdmgndebifiaaGreatDoorZd38
import Derived.Test.YtgkdmgndebifiaaGreatDoorZd33
set_option linter.unusedSimpArgs false
set_option linter.unusedVariables false
set_option maxRecDepth 10000
namespace Go.Proofs.YtgkdmgndebifiaaGreatDoor
open Go.RowKit Go.Maps
theorem ext_drewS (w:World) (n:Nat):Ext w (w.drewN n):=by
 induction n with
 | zero => exact Ext.refl _
 | succ n ih => exact Ext.drew ih
set_option maxHeartbeats 1000000 in
theorem sameInts_w (l:List Int) (a b:Option Addr) (ca cb:Nat) (F F':Nat → Prop) (w:World) (h1:RepI w F a l) (h2:RepI w F' b l) (hl:l.length ≤ 1000000) :
  Calls Tryz.prog 10 #[.slice a l.length ca,.slice b l.length cb] w fun e w' => e = .returned (.bool true) ∧ Ext w w':=by
 go_enter Tryz.func10,Tryz.ntmps10
 go_wp2_with fail
 go_loopw [5] (fun t wr => ∃ j:Nat,t = .int .i64 j ∧ j ≤ l.length ∧ Hd (Ext w wr)) (fun t _ => l.length - (intOf t).toNat)
 case atStart => exact ⟨0,rfl,by omega,Ext.refl w⟩
 case round =>
  obtain ⟨j,rfl,hj,hw⟩:=hrel
  by_cases hlt:j < l.length
  ·obtain ⟨x,hx⟩:∃ x,l[j]? = some x:=⟨_,List.getElem?_eq_getElem hlt⟩
   have hne:l ≠ []:=by rintro rfl;simp at hlt
   rcases h1 with h1 | ⟨b1,rfl,_,c1⟩
   ·exact absurd h1 hne
   rcases h2 with h2 | ⟨b2,rfl,_,c2⟩
   ·exact absurd h2 hne
   have d1:=(unhide hw).cell (c1 j x hx)
   have d2:=(unhide hw).cell (c2 j x hx)
   clear c1 c2 hx
   go_wp2_with fail
   go_quiet (fail)
   go_wp2_with fail
   go_roundw
   case rel => exact ⟨j + 1,by go_num,by omega,(unhide hw).trans (ext_drewS _ _)⟩
   case measure => simp [intOf];omega
  ·have hje:j = l.length:=by omega
   subst hje
   go_wp2_with fail
   go_ret
   exact ⟨rfl,unhide hw⟩
end Go.Proofs.YtgkdmgndebifiaaGreatDoor
namespace Go.Proofs.YtgkdmgndebifiaaGreatDoor
open Go.RowKit Go.Maps
theorem rowSc_at {w:World} {F:Nat → Prop}:∀ {ps:List PSc} {xs:List Value},RowSc w F ps xs → ∀ (i:Nat) (p:PSc),ps[i]? = some p →
  ∃ sa sc ca cc,xs[i * 3]? = some (.int .i64 p.lc) ∧ xs[i * 3 + 1]? = some (.slice sa p.sl.length sc) ∧ xs[i * 3 + 2]? = some (.slice ca p.cl.length cc) ∧ RepI w F sa p.sl ∧ RepI w F ca p.cl:=by
 intro ps
 induction ps with
 | nil => intro xs _ i p h;simp at h
 | cons q ps ih =>
  intro xs hx i p hp
  obtain ⟨sa,sc,ca,cc,rest,rfl,h1,h2,h3,h4,hr⟩:=hx
  cases i with
  | zero =>
   obtain rfl:q = p:=by simpa using hp
   exact ⟨sa,sc,ca,cc,rfl,rfl,rfl,h2,h4⟩
  | succ i =>
   obtain ⟨sa',sc',ca',cc',a,b,c,d,e⟩:=ih hr i p (by simpa using hp)
   refine ⟨sa',sc',ca',cc',?_,?_,?_,d,e⟩
   ·rw [show (i + 1) * 3 = 3 + i * 3 by omega,List.getElem?_append_right (by simp)];simpa using a
   ·rw [show (i + 1) * 3 + 1 = 3 + (i * 3 + 1) by omega,List.getElem?_append_right (by simp)];simpa using b
   ·rw [show (i + 1) * 3 + 2 = 3 + (i * 3 + 2) by omega,List.getElem?_append_right (by simp)];simpa using c
theorem RepSc.at {w:World} {F:Nat → Prop} {ps:List PSc} {a:Option Addr} (h:RepSc w F ps a) (i:Nat) (p:PSc) (hp:ps[i]? = some p) :
  ∃ b sa sc ca cc,a = some ⟨b,0,none⟩ ∧ w.cell? ⟨b,i * 3,none⟩ = some (.int .i64 p.lc) ∧ w.cell? ⟨b,i * 3 + 1,none⟩ = some (.slice sa p.sl.length sc) ∧ w.cell? ⟨b,i * 3 + 2,none⟩ = some (.slice ca p.cl.length cc) ∧ RepI w F sa p.sl ∧ RepI w F ca p.cl:=by
 rcases h with rfl | ⟨b,xs,rfl,hb,hrow,hc⟩
 ·simp at hp
 ·obtain ⟨sa,sc,ca,cc,h1,h2,h3,h4,h5⟩:=rowSc_at hrow i p hp
  exact ⟨b,sa,sc,ca,cc,rfl,hc _ _ h1,hc _ _ h2,hc _ _ h3,h4,h5⟩
theorem RepSc.inw {w w':World} {l:List PSc} {a:Option Addr} (h:RepSc w (InW w) l a) (k:Ext w w'):RepSc w' (InW w') l a:=RepSc.to (fun b hb => ⟨Nat.lt_of_lt_of_le hb k.size,k.block b hb⟩) h
theorem RepI.inw {w w':World} {l:List Int} {a:Option Addr} (h:RepI w (InW w) a l) (k:Ext w w'):RepI w' (InW w') a l:=RepI.to (fun b hb => ⟨Nat.lt_of_lt_of_le hb k.size,k.block b hb⟩) h
end Go.Proofs.YtgkdmgndebifiaaGreatDoor
