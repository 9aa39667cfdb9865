/- The document's checker: it finds a name,uses one. · What is built in,by the document. · The document's checker: a call. · The document's way through a tree: what stops at once,while. -/
import Derived.Test.YtgkdmgndebifiaaGreatDoorZd42
import Derived.Test.YtgkdmgndebifiaaGreatDoorZd35
import Derived.Test.YtgkdmgndebifiaaGreatDoorZd16
set_option linter.unusedSimpArgs false
set_option linter.unusedVariables false
set_option maxRecDepth 10000
namespace Go.Proofs.YtgkdmgndebifiaaGreatDoor
open Go.RowKit Go.Maps
variable {g:Nat} {w w' w2:World} {fv:Value} {fs:List PFn} {d:DK} {sa ca ea:Option Addr} {ns sc nc cc ne ec:Nat}
def CK (g:Nat) (w:World) (fv:Value) (fs:List PFn) (d:DK):Prop:=∃ sa ns sc ca nc cc ea ne ec,CS g w fv fs d sa ns sc ca nc cc ea ne ec
theorem CK.ext (h:CK g w fv fs d) (k:Ext w w'):CK g w' fv fs d:=by
 obtain ⟨sa,ns,sc,ca,nc,cc,ea,ne,ec,h⟩:=h
 exact ⟨sa,ns,sc,ca,nc,cc,ea,ne,ec,h.ext k⟩
theorem CK.lt (h:CK g w fv fs d):g < w.heap.size:=by
 obtain ⟨sa,ns,sc,ca,nc,cc,ea,ne,ec,h⟩:=h
 exact h.lt
theorem ck_c {lc lp e:Int} {sv cv ev:Value} (h:w.heap[g]? = some (ckO fv lc sv cv ev lp e)):w.cell? ⟨g,0,none⟩ = some fv ∧ w.cell? ⟨g,1,none⟩ = some (.int .i64 lc) ∧ w.cell? ⟨g,2,none⟩ = some sv ∧ w.cell? ⟨g,3,none⟩ = some cv ∧ w.cell? ⟨g,4,none⟩ = some ev ∧ w.cell? ⟨g,5,none⟩ = some (.int .i64 lp) ∧ w.cell? ⟨g,6,none⟩ = some (.int .i64 e) ∧ ∀ i,w.frozen? ⟨g,i,none⟩ = false :=
 ⟨rowC h 0 rfl,rowC h 1 rfl,rowC h 2 rfl,rowC h 3 rfl,rowC h 4 rfl,rowC h 5 rfl,rowC h 6 rfl,rowF h⟩
def fndV (see:List (ByteArray × Int)) (s:ByteArray):Int:=match fnd see s with
 | some v => v
 | none => -1
set_option maxHeartbeats 2000000 in
theorem find_c (h:CK g w fv fs d) (hb:d.see.length ≤ 100000) (s:ByteArray):Calls Tryz.prog 16 #[.pointer (some ⟨g,0,none⟩),.string s] w fun e w' => e = .returned (.int .i64 (fndV d.see s)) ∧ Ext w w':=by
 obtain ⟨sa,ns,sc,ca,nc,cc,ea,ne,ec,h⟩:=h
 have hne:=h.hne
 have H:=hide h
 obtain ⟨c0,c1,c2,c3,c4,c5,c6,zf⟩:=ck_c h.row
 have C4:=hide c4
 have hnn:ne ≤ 100000:=by omega
 have hec:ne ≤ ec:=by
  rcases h.ose.2 with ⟨q1,q2⟩ | ⟨b,cap2,cur,q1,q2,q3,q4,q5,q6,q7⟩
  ·omega
  ·injection q1 with q1 q8 q9;omega
 clear h
 go_enter Tryz.func16,Tryz.ntmps16
 go_wp2_with fail
 go_loopw [5] (fun t wr => ∃ (j:Nat),t = .int .i64 ((j:Int) - 1) ∧ j ≤ ne ∧ Hd (Ext w wr) ∧ Hd (∀ q ∈ d.see.drop j,(q.1.data.toList == s.data.toList) = false)) (fun t _ => (intOf t + 1).toNat)
 case atStart => exact ⟨ne,rfl,Nat.le_refl _,Ext.refl _,by rw [← hne,List.drop_length];intro q hq;cases hq⟩
 case round =>
  clear c0 c1 c2 c3 c4 c5 c6 zf
  obtain ⟨j,rfl,hj,hX,hN⟩:=hrel
  have c4:=(unhide hX).cell (unhide C4)
  cases j with
  | zero =>
   have HM:Hd (fndV d.see s = -1):=by
    unfold Hd fndV
    rw [fnd_miss (fun q hq => unhide hN q (by simpa using hq))]
   go_wp2_with fail
   go_ret
   exact ⟨by rw [unhide HM];rfl,unhide hX⟩
  | succ i =>
   obtain ⟨p,hp⟩:∃ p,d.see[i]? = some p:=⟨_,List.getElem?_eq_getElem (by omega)⟩
   obtain ⟨b,rfl,e0,e1⟩:=(unhide H).at i p hp
   have e0:=(unhide hX).cell e0
   have e1:=(unhide hX).cell e1
   have hi1:((i + 1:Nat):Int) - 1 = (i:Int):=by omega
   rw [hi1]
   cases hq:(p.1.toList == s.toList)
   ·have HN2:Hd (∀ q ∈ d.see.drop i,(q.1.data.toList == s.data.toList) = false):=by
     intro q hq2
     rw [List.drop_eq_getElem_cons (by omega),(List.getElem?_eq_some_iff.1 hp).2] at hq2
     rcases List.mem_cons.1 hq2 with rfl | hq2
     ·rw [ByteArray.toList_eq,ByteArray.toList_eq] at hq;exact hq
     ·exact unhide hN q hq2
    clear hp
    go_wp2_with fail
    go_roundw
    case rel => exact ⟨i,by go_num,by omega,hX,HN2⟩
    case measure => simp [intOf];try omega
   ·have HM:Hd (fndV d.see s = p.2):=by
     unfold Hd fndV
     rw [ByteArray.toList_eq,ByteArray.toList_eq] at hq
     rw [fnd_hit hp hq (unhide hN)]
    clear hp
    go_wp2_with fail
    go_ret
    exact ⟨by rw [unhide HM];rfl,unhide hX⟩
theorem infoI:(Tryz.prog.info? 3).map (fun i => (i.zero,i.size,i.bytes)) = some (some (.int .i64 0),1,8):=by kernel_rfl
theorem infoSe:(Tryz.prog.info? 67).map (fun i => (i.zero,i.size,i.bytes)) = some (some (.agg #[.string emptyB,.int .i64 0]),2,24):=by kernel_rfl
theorem one_int (x:Int):∀ u ∈ ([.int .i64 x]:List Value),u.oneCell' = true:=by
 intro u hu
 simp at hu
 subst hu
 rfl
theorem one_see (s:ByteArray) (x:Int):∀ u ∈ ([.string s,.int .i64 x]:List Value),u.oneCell' = true:=by
 intro u hu
 simp at hu
 rcases hu with rfl | rfl <;> rfl
abbrev CAns (g:Nat) (w:World) (fv:Value) (fs:List PFn) (d:DK) (e:Ending) (w':World):Prop:=e = .returned (.tuple #[]) ∧ CK g w' fv fs d ∧ CF g w w'
set_option maxHeartbeats 2000000 in
theorem use_c (h:CK g w fv fs d) (he:d.e = 0) (hb:d.see.length ≤ 100000) (hbs:d.sl.length ≤ 100000) (s:ByteArray):Calls Tryz.prog 37 #[.pointer (some ⟨g,0,none⟩),.string s] w (CAns g w fv fs (d.use s)):=by
 have HF:=hide (find_c h hb s)
 obtain ⟨sa,ns,sc,ca,nc,cc,ea,ne,ec,h⟩:=h
 have hns:=h.hns
 have H:=hide h
 have hg:=h.lt
 have hrow:=h.row
 rw [he] at hrow
 have HR:=hide hrow
 obtain ⟨i0,hi,hz0,hz1,hz2⟩:=info_parts infoI
 have HI:=hide hi
 have Z0:=hide hz0
 have Z1:=hide hz1
 have Z2:=hide hz2
 clear hi hz0 hz1 hz2
 cases hf:fnd d.see s with
 | none =>
  have hu:d.use s = { d with e:=11 }:=by unfold DK.use;rw [hf]
  have hv:fndV d.see s = -1:=by unfold fndV;rw [hf]
  rw [hu]
  rw [hv] at HF
  clear h hu hv hf hrow he
  go_enter Tryz.func37,Tryz.ntmps37
  go_wp2_with (go_at_call 16;refine Calls.mono (unhide HF) ?_;rintro e w1 ⟨rfl,hw⟩;have X1:=hide hw;have hr:=hw.row (unhide HR);obtain ⟨c0,c1,c2,c3,c4,c5,c6,zf⟩:=ck_c hr;clear hw hr)
  go_end0
  exact ⟨rfl,⟨_,_,_,_,_,_,_,_,_,((unhide H).ext (unhide X1)).setE 11⟩,(CF.of hg (unhide X1)).set 6 _⟩
 | some v =>
  have hu:d.use s = { d with sl:=d.sl ++ [v] }:=by unfold DK.use;rw [hf]
  have hv:fndV d.see s = v:=by unfold fndV;rw [hf]
  have hpos:=fnd_pos h.pos hf
  have hd0:decide (v < 0) = false:=by simp;omega
  have hd1:¬ v < 0:=by omega
  rw [hu]
  rw [hv] at HF
  clear h hu hv hf hrow he
  go_enter Tryz.func37,Tryz.ntmps37
  go_wp2_with (first
   | (go_at_call 16;refine Calls.mono (unhide HF) ?_;rintro e w1 ⟨rfl,hw⟩;have X1:=hide hw;have hr:=hw.row (unhide HR);obtain ⟨c0,c1,c2,c3,c4,c5,c6,zf⟩:=ck_c hr;have HA:=hide (fun ob => ((unhide H).ext hw).ext (Ext.alloc _ ob));have hz1:=hw.size;clear hw hr)
   | (at_builtin;refine wpList_append_where rfl (.tmp 30) (.tmp 32) 40 rfl (g + 1) 3 i0 (.int .i64 0) 1 8 Tryz.underlying40 (unhide HI) (unhide Z0) (unhide Z1) (unhide Z2) rfl (by decide) sa ns sc (inV d.sl) rfl (unhide HA _).osl ⟨w1.heap.size,0,none⟩ 1 1 [.int .i64 v] rfl (by decide) rfl (cells_new w1 _ _) (one_int _) ?c1 ?c2 ?c3 ?_))
  case c1 => unfold maxLen;omega
  case c2 => omega
  case c3 => simp;omega
  intro g2 cap6 w6 ho6 hg6 hw6
  have hP:=CS.pushSl (unhide HA _) ho6 hg6 (by rw [size_alloc];exact hw6)
  have hrow6:=row_grow (unhide HA _).osl hg6 (unhide HA _).row
  obtain ⟨z0,z1,z2,z3,z4,z5,z6,zzf⟩:=ck_c hrow6
  have HP:=hide hP
  clear hP hrow6 ho6 hg6 hw6 c0 c1 c2 c3 c4 c5 c6 zf
  go_wp2_with fail
  go_end0
  exact ⟨rfl,⟨_,_,_,_,_,_,_,_,_,(unhide HP).1⟩,(CF.of hg ((unhide X1).trans (Ext.alloc _ _))).trans (unhide HP).2⟩
end Go.Proofs.YtgkdmgndebifiaaGreatDoor
namespace Go.Proofs.YtgkdmgndebifiaaGreatDoor
open Go.RowKit Go.Maps
def biW (l:List UInt8):Value:=match (biL.find? (fun p => p.1.data.toList == l)).map (·.2) with
 | some (o,n) => .tuple #[.int .i64 o,.int .i64 n,.bool true]
 | none => .tuple #[.int .i64 0,.int .i64 0,.bool false]
theorem biV_eq (s:ByteArray):biV s = biW s.data.toList:=rfl
theorem biV_no {s:ByteArray} (h0:(s.toList == [112,117,115,104]) = false) (h1:(s.toList == [99,120]) = false) (h2:(s.toList == [108,101,110]) = false) (h3:(s.toList == [114,101]) = false) (h4:(s.toList == [105,109]) = false) (h5:(s.toList == [99,111,110,106]) = false):biV s = .tuple #[.int .i64 0,.int .i64 0,.bool false]:=by
 rw [ByteArray.toList_eq] at h0 h1 h2 h3 h4 h5
 rw [biV_eq]
 generalize s.data.toList = l at *
 have hf:biL.find? (fun p => p.1.data.toList == l) = none:=by
  rw [List.find?_eq_none]
  intro x hx
  simp only [biL,List.mem_cons,List.not_mem_nil,or_false] at hx
  rcases hx with rfl | rfl | rfl | rfl | rfl | rfl
  ·intro e;rw [← beq_iff_eq.1 e] at h0;exact absurd h0 (by decide)
  ·intro e;rw [← beq_iff_eq.1 e] at h1;exact absurd h1 (by decide)
  ·intro e;rw [← beq_iff_eq.1 e] at h2;exact absurd h2 (by decide)
  ·intro e;rw [← beq_iff_eq.1 e] at h3;exact absurd h3 (by decide)
  ·intro e;rw [← beq_iff_eq.1 e] at h4;exact absurd h4 (by decide)
  ·intro e;rw [← beq_iff_eq.1 e] at h5;exact absurd h5 (by decide)
 unfold biW
 rw [hf]
 rfl
set_option maxHeartbeats 1000000 in
theorem rbuiltin_w (s:ByteArray) (w:World):Calls Tryz.prog 15 #[.string s] w fun e w' => e = .returned (biV s) ∧ w' = w:=by
 cases h0:(s.toList == [112,117,115,104])
 ·skip
  cases h1:(s.toList == [99,120])
  ·skip
   cases h2:(s.toList == [108,101,110])
   ·skip
    cases h3:(s.toList == [114,101])
    ·skip
     cases h4:(s.toList == [105,109])
     ·skip
      cases h5:(s.toList == [99,111,110,106])
      ·skip
       have HV:Hd (biV s = .tuple #[.int .i64 0,.int .i64 0,.bool false]):=biV_no h0 h1 h2 h3 h4 h5
       go_enter Tryz.func15,Tryz.ntmps15
       go_wp2_with fail
       rw [unhide HV]
       exact bodyPost_ret (v:=.tuple #[.int .i64 0,.int .i64 0,.bool false]) (by simp [results,Tryz.results15]) rfl ⟨rfl,rfl⟩
      ·have HV:Hd (biV s = .tuple #[.int .i64 20,.int .i64 1,.bool true]):=by
        have e:s.data.toList = [99,111,110,106]:=by rw [← ByteArray.toList_eq];exact beq_iff_eq.1 h5
        unfold Hd
        rw [biV_eq,e]
        rfl
       go_enter Tryz.func15,Tryz.ntmps15
       go_wp2_with fail
       rw [unhide HV]
       exact bodyPost_ret (v:=.tuple #[.int .i64 20,.int .i64 1,.bool true]) (by simp [results,Tryz.results15]) rfl ⟨rfl,rfl⟩
     ·have HV:Hd (biV s = .tuple #[.int .i64 19,.int .i64 1,.bool true]):=by
       have e:s.data.toList = [105,109]:=by rw [← ByteArray.toList_eq];exact beq_iff_eq.1 h4
       unfold Hd
       rw [biV_eq,e]
       rfl
      go_enter Tryz.func15,Tryz.ntmps15
      go_wp2_with fail
      rw [unhide HV]
      exact bodyPost_ret (v:=.tuple #[.int .i64 19,.int .i64 1,.bool true]) (by simp [results,Tryz.results15]) rfl ⟨rfl,rfl⟩
    ·have HV:Hd (biV s = .tuple #[.int .i64 18,.int .i64 1,.bool true]):=by
      have e:s.data.toList = [114,101]:=by rw [← ByteArray.toList_eq];exact beq_iff_eq.1 h3
      unfold Hd
      rw [biV_eq,e]
      rfl
     go_enter Tryz.func15,Tryz.ntmps15
     go_wp2_with fail
     rw [unhide HV]
     exact bodyPost_ret (v:=.tuple #[.int .i64 18,.int .i64 1,.bool true]) (by simp [results,Tryz.results15]) rfl ⟨rfl,rfl⟩
   ·have HV:Hd (biV s = .tuple #[.int .i64 17,.int .i64 1,.bool true]):=by
     have e:s.data.toList = [108,101,110]:=by rw [← ByteArray.toList_eq];exact beq_iff_eq.1 h2
     unfold Hd
     rw [biV_eq,e]
     rfl
    go_enter Tryz.func15,Tryz.ntmps15
    go_wp2_with fail
    rw [unhide HV]
    exact bodyPost_ret (v:=.tuple #[.int .i64 17,.int .i64 1,.bool true]) (by simp [results,Tryz.results15]) rfl ⟨rfl,rfl⟩
  ·have HV:Hd (biV s = .tuple #[.int .i64 14,.int .i64 2,.bool true]):=by
    have e:s.data.toList = [99,120]:=by rw [← ByteArray.toList_eq];exact beq_iff_eq.1 h1
    unfold Hd
    rw [biV_eq,e]
    rfl
   go_enter Tryz.func15,Tryz.ntmps15
   go_wp2_with fail
   rw [unhide HV]
   exact bodyPost_ret (v:=.tuple #[.int .i64 14,.int .i64 2,.bool true]) (by simp [results,Tryz.results15]) rfl ⟨rfl,rfl⟩
 ·have HV:Hd (biV s = .tuple #[.int .i64 13,.int .i64 2,.bool true]):=by
   have e:s.data.toList = [112,117,115,104]:=by rw [← ByteArray.toList_eq];exact beq_iff_eq.1 h0
   unfold Hd
   rw [biV_eq,e]
   rfl
  go_enter Tryz.func15,Tryz.ntmps15
  go_wp2_with fail
  rw [unhide HV]
  exact bodyPost_ret (v:=.tuple #[.int .i64 13,.int .i64 2,.bool true]) (by simp [results,Tryz.results15]) rfl ⟨rfl,rfl⟩
end Go.Proofs.YtgkdmgndebifiaaGreatDoor
namespace Go.Proofs.YtgkdmgndebifiaaGreatDoor
open Go.RowKit Go.Maps
variable {g:Nat} {w w' w2:World} {fv:Value} {fs:List PFn} {d:DK}
set_option maxHeartbeats 4000000 in
theorem call_c (h:CK g w fv fs d) (hbc:d.cl.length ≤ 100000) (hfl:fs.length ≤ 100000) (k o n:Int) (s:ByteArray) (a:Option Addr) (ln cap:Nat) (hln:ln ≤ 100000) (hps:∀ p ∈ fs,p.ps.length ≤ 100000) :
  Calls Tryz.prog 38 #[.pointer (some ⟨g,0,none⟩),nodV k o s n (.slice a ln cap)] w (CAns g w fv fs (d.callD fs s ln)):=by
 have hg:=h.lt
 by_cases he:d.e = 0
 case neg =>
  have hu:d.callD fs s ln = d:=by unfold DK.callD;rw [if_pos he]
  rw [hu]
  have HE:=hide (h.ext (Ext.alloc _ (nodO k o s n (.slice a ln cap))))
  have he2:(d.e == 0) = false:=by simpa using he
  have he3:(d.e != 0) = true:=by simp [he]
  obtain ⟨sa,ns,sc,ca,nc,cc,ea,ne,ec,h⟩:=h
  obtain ⟨c0,c1,c2,c3,c4,c5,c6,zf⟩:=ck_c h.row
  clear h hu he
  go_enter Tryz.func38,Tryz.ntmps38
  go_wp2
  go_end0
  exact ⟨rfl,unhide HE,CF.of hg (Ext.alloc _ _)⟩
 obtain ⟨sa,ns,sc,ca,nc,cc,ea,ne,ec,h⟩:=h
 have hnc:=h.hnc
 have H:=hide h
 obtain ⟨fa,fcap,rfl,hfc,hfl2⟩:=h.fl
 have HFL:=hide hfl2
 have hrow:=h.row
 rw [he] at hrow
 have HR:=hide hrow
 have HPS:=hide hps
 obtain ⟨c0,c1,c2,c3,c4,c5,c6,zf⟩:=ck_c hrow
 obtain ⟨II0,hi,hz0,hz1,hz2⟩:=info_parts infoI
 have HII:=hide hi
 have ZII0:=hide hz0
 have ZII1:=hide hz1
 have ZII2:=hide hz2
 clear hi hz0 hz1 hz2
 have HX0:Hd (Ext w (w.alloc (nodO k o s n (.slice a ln cap)))):=Ext.alloc _ _
 have HB0:Hd ((w.alloc (nodO k o s n (.slice a ln cap))).heap[w.heap.size]? = some (nodO k o s n (.slice a ln cap))):=Go.heap_alloc_new w _
 have hcal:d.callD fs s ln = match idxF fs s 0 with
   | some i => if ((fs[i]?).map (·.ps.length)).getD 0 ≠ ln then { d with e:=12 } else { d with cl:=d.cl ++ [(i:Int)] }
   | none => match biP s with
    | none => { d with e:=11 }
    | some (op,k) => if k ≠ (ln:Int) then { d with e:=12 } else { d with cl:=d.cl ++ [1000 + op] }:=by unfold DK.callD;rw [if_neg (by simp [he])];rfl
 have HCAL:=hide hcal
 clear h hrow hfl2 hcal hps he
 generalize hFN:fs.length = fn at *
 go_enter Tryz.func38,Tryz.ntmps38
 go_wp2_with fail
 clear c0 c1 c2 c3 c4 c5 c6 zf
 go_loopw [4] (fun t wr => ∃ (j:Nat),t = .int .i64 j ∧ j ≤ fn ∧ Hd (Ext w wr) ∧ Hd (wr.heap[w.heap.size]? = some (nodO k o s n (.slice a ln cap))) ∧ Hd (∀ q ∈ fs.take j,(q.nm.data.toList == s.data.toList) = false)) (fun t _ => fn - (intOf t).toNat)
 case atStart => exact ⟨0,rfl,Nat.zero_le _,HX0,HB0,by rw [Hd,List.take_zero];intro q hq;cases hq⟩
 case round =>
  clear HX0 HB0
  obtain ⟨j,rfl,hj,hX,hB,hN⟩:=hrel
  have hr:=(unhide hX).row (unhide HR)
  obtain ⟨c0,c1,c2,c3,c4,c5,c6,zf⟩:=ck_c hr
  have b2:=rowC (unhide hB) 2 rfl
  have b4:=rowC (unhide hB) 4 rfl
  have hzr:w.heap.size < wr.heap.size:=(Array.getElem?_eq_some_iff.1 (unhide hB)).1
  have HS:=hide ((unhide H).ext (unhide hX))
  clear hr
  by_cases hlt:j < fn
  ·obtain ⟨p,hp⟩:∃ p,fs[j]? = some p:=⟨_,List.getElem?_eq_getElem (by omega)⟩
   obtain ⟨b,off,pa,pc,qa,qc,rfl,hbl,hc,hpc,_,_,_⟩:=(unhide HFL).at j p hp
   have e0:=(unhide hX).cell (hc 0 _ rfl)
   have e1:=(unhide hX).cell (hc 1 _ rfl)
   have hpl:=unhide HPS p (List.mem_of_getElem? hp)
   have HW:Nonempty (RGw wr):=⟨⟨wr,Ext.refl _⟩⟩
   have k0:∀ y:RGw wr,y.w.cell? ⟨g,0,none⟩ = some (.slice (some ⟨b,off,none⟩) fn fcap):=fun y => y.h.cell c0
   have k1:∀ y:RGw wr,y.w.cell? ⟨b,off + j * 7,none⟩ = some (.string p.nm):=fun y => y.h.cell e0
   have k2:∀ y:RGw wr,y.w.cell? ⟨b,off + j * 7 + 1,none⟩ = some (.slice pa p.ps.length pc):=fun y => y.h.cell e1
   have k3:∀ y:RGw wr,y.w.cell? ⟨w.heap.size,2,none⟩ = some (.string s):=fun y => y.h.cell b2
   have k4:∀ y:RGw wr,y.w.cell? ⟨w.heap.size,4,none⟩ = some (.slice a ln cap):=fun y => y.h.cell b4
   clear hc hbl
   cases hq:(p.nm.toList == s.toList)
   ·have HN2:Hd (∀ q ∈ fs.take (j + 1),(q.nm.data.toList == s.data.toList) = false):=by
     intro q hq2
     rw [List.take_succ_eq_append_getElem (by omega),(List.getElem?_eq_some_iff.1 hp).2] at hq2
     rcases List.mem_append.1 hq2 with hq2 | hq2
     ·exact unhide hN q hq2
     ·simp at hq2;subst hq2;rw [ByteArray.toList_eq,ByteArray.toList_eq] at hq;exact hq
    clear hp
    generalize p.nm = pnm at *
    go_wp2_with fail
    refine wp_region_rx (W:=wr) (by kernel_rfl) (by kernel_rfl) (Ext.refl _) ?_
    repeat (go_big_quiet_step (fail))
    refine wpQuiet_nil ?_
    rintro w4 ⟨n4,hn4⟩
    have hx4:Ext wr w4:=hn4 ▸ n4.h
    have X4:=hide ((unhide hX).trans hx4)
    have B4:=hide (hx4.row (unhide hB))
    clear hn4 n4 hx4
    go_wp2_with fail
    go_roundw
    case rel => exact ⟨j + 1,by go_num,by omega,X4,B4,HN2⟩
    case measure => simp [intOf];omega
   ·have hq2:(p.nm.data.toList == s.data.toList) = true:=by rw [ByteArray.toList_eq,ByteArray.toList_eq] at hq;exact hq
    have hidx:=idxF_some fs s 0 j p hp hq2 (unhide hN)
    rw [Nat.zero_add] at hidx
    have hpp:((fs[j]?).map (·.ps.length)).getD 0 = p.ps.length:=by rw [hp];rfl
    by_cases hne:p.ps.length = ln
    ·have HC:Hd (d.callD fs s ln = { d with cl:=d.cl ++ [(j:Int)] }):=by rw [Hd,unhide HCAL,hidx];simp only;rw [hpp,if_neg (by simp [hne])]
     clear hidx hp hpp
     generalize hPL:p.ps.length = pl at *
     have hd1:((pl:Int) == (ln:Int)) = true:=by simp;omega
     have hd2:((pl:Int) != (ln:Int)) = false:=by rw [bne,hd1];rfl
     have hd3:(pl:Int) = (ln:Int):=by omega
     generalize p.nm = pnm at *
     go_wp2_with fail
     refine wp_region_rx (W:=wr) (by kernel_rfl) (by kernel_rfl) (Ext.refl _) ?_
     repeat (go_big_quiet_step (fail))
     refine wpQuiet_nil ?_
     rintro w4 ⟨n4,hn4⟩
     have hx4:Ext wr w4:=hn4 ▸ n4.h
     clear hn4 n4
     go_wp2_with fail
     refine wp_region_rx (W:=wr) (by kernel_rfl) (by kernel_rfl) hx4 ?_
     repeat (go_big_quiet_step (fail))
     refine wpQuiet_nil ?_
     rintro w5 ⟨n5,hn5⟩
     have hx5:Ext wr w5:=hn5 ▸ n5.h
     clear hn5 n5 hx4 k0 k1 k2 k3 k4 HW c0 c1 c2 c3 c4 c5 c6 zf
     have X5:=hide ((unhide hX).trans hx5)
     have HA:=hide (fun ob => ((unhide HS).ext hx5).ext (Ext.alloc _ ob))
     obtain ⟨c0,c1,c2,c3,c4,c5,c6,zf⟩:=ck_c ((unhide X5).row (unhide HR))
     have hz5:=hx5.size
     clear hx5
     go_wp2_with (at_builtin;refine wpList_append_where rfl (.tmp 54) (.tmp 56) 40 rfl (g + 1) 3 II0 (.int .i64 0) 1 8 Tryz.underlying40 (unhide HII) (unhide ZII0) (unhide ZII1) (unhide ZII2) rfl (by decide) ca nc cc (inV d.cl) rfl (unhide HA _).ocl ⟨w5.heap.size,0,none⟩ 1 1 [.int .i64 (j:Int)] rfl (by decide) rfl (cells_new w5 _ _) (one_int _) ?c1 ?c2 ?c3 ?_)
     case c1 => unfold maxLen;omega
     case c2 => omega
     case c3 => simp;omega
     intro g2 cap6 w6 ho6 hg6 hw6
     have hP:=CS.pushCl (unhide HA _) ho6 hg6 (by rw [size_alloc];exact hw6)
     have hrow6:=row_grow (unhide HA _).ocl hg6 (unhide HA _).row
     obtain ⟨z0,z1,z2,z3,z4,z5,z6,zzf⟩:=ck_c hrow6
     have HP:=hide hP
     clear hP hrow6 ho6 hg6 hw6 c0 c1 c2 c3 c4 c5 c6 zf
     go_wp2_with fail
     go_end0
     exact ⟨rfl,by rw [unhide HC];exact ⟨_,_,_,_,_,_,_,_,_,(unhide HP).1⟩,(CF.of hg ((unhide X5).trans (Ext.alloc _ _))).trans (unhide HP).2⟩
    ·have HC:Hd (d.callD fs s ln = { d with e:=12 }):=by rw [Hd,unhide HCAL,hidx];simp only;rw [hpp,if_pos hne]
     clear hidx hp hpp
     generalize hPL:p.ps.length = pl at *
     have hd1:((pl:Int) == (ln:Int)) = false:=by simp;omega
     have hd2:((pl:Int) != (ln:Int)) = true:=by rw [bne,hd1];rfl
     have hd3:¬ (pl:Int) = (ln:Int):=by omega
     generalize p.nm = pnm at *
     go_wp2_with fail
     refine wp_region_rx (W:=wr) (by kernel_rfl) (by kernel_rfl) (Ext.refl _) ?_
     repeat (go_big_quiet_step (fail))
     refine wpQuiet_nil ?_
     rintro w4 ⟨n4,hn4⟩
     have hx4:Ext wr w4:=hn4 ▸ n4.h
     clear hn4 n4
     go_wp2_with fail
     refine wp_region_rx (W:=wr) (by kernel_rfl) (by kernel_rfl) hx4 ?_
     repeat (go_big_quiet_step (fail))
     refine wpQuiet_nil ?_
     rintro w5 ⟨n5,hn5⟩
     have hx5:Ext wr w5:=hn5 ▸ n5.h
     clear hn5 n5 hx4 k0 k1 k2 k3 k4 HW c0 c1 c2 c3 c4 c5 c6 zf
     have X5:=hide ((unhide hX).trans hx5)
     have HA:=hide ((unhide HS).ext hx5)
     obtain ⟨c0,c1,c2,c3,c4,c5,c6,zf⟩:=ck_c ((unhide X5).row (unhide HR))
     clear hx5
     go_wp2_with fail
     go_end0
     exact ⟨rfl,by rw [unhide HC];exact ⟨_,_,_,_,_,_,_,_,_,(unhide HA).setE 12⟩,(CF.of hg (unhide X5)).set 6 _⟩
  ·have hjn:j = fn:=by omega
   have hidx:idxF fs s 0 = none:=idxF_none fs s 0 (fun q hq => unhide hN q (by rw [hjn,← hFN,List.take_length];exact hq))
   have HCAL2:Hd (d.callD fs s ln = match biP s with
    | none => { d with e:=11 }
    | some (op,k) => if k ≠ (ln:Int) then { d with e:=12 } else { d with cl:=d.cl ++ [1000 + op] }):=by rw [Hd,unhide HCAL,hidx]
   clear hidx hjn
   have HBI:=hide (fun (W:World) => rbuiltin_w s W)
   unfold biV at HBI
   cases hbi:biP s with
   | none =>
    rw [hbi] at HBI HCAL2
    simp only at HBI HCAL2
    go_wp2_with (go_at_call 15;refine Calls.mono (unhide HBI _) ?_;rintro e w4 ⟨rfl,hw⟩;obtain rfl:=hw.symm)
    go_end0
    exact ⟨rfl,by rw [unhide HCAL2];exact ⟨_,_,_,_,_,_,_,_,_,(unhide HS).setE 11⟩,(CF.of hg (unhide hX)).set 6 _⟩
   | some q =>
    obtain ⟨op,kk⟩:=q
    rw [hbi] at HBI HCAL2
    simp only at HBI HCAL2
    have hop:=biP_op hbi
    by_cases hkk:kk = (ln:Int)
    ·rw [if_neg (by simp [hkk])] at HCAL2
     have hd1:(kk == (ln:Int)) = true:=by simp [hkk]
     have hd2:(kk != (ln:Int)) = false:=by rw [bne,hd1];rfl
     have HA:=hide (fun ob => (unhide HS).ext (Ext.alloc _ ob))
     have HKK:=hide hkk
     clear hkk hbi
     go_wp2_with (first
      | (go_at_call 15;refine Calls.mono (unhide HBI _) ?_;rintro e w4 ⟨rfl,hw⟩;obtain rfl:=hw.symm)
      | (at_builtin;refine wpList_append_where rfl (.tmp 73) (.tmp 76) 40 rfl (g + 1) 3 II0 (.int .i64 0) 1 8 Tryz.underlying40 (unhide HII) (unhide ZII0) (unhide ZII1) (unhide ZII2) rfl (by decide) ca nc cc (inV d.cl) rfl (unhide HA _).ocl ⟨wr.heap.size,0,none⟩ 1 1 [.int .i64 (1000 + op)] rfl (by decide) rfl (cells_new wr _ _) (one_int _) ?c1 ?c2 ?c3 ?_))
     case c1 => unfold maxLen;omega
     case c2 => omega
     case c3 => simp;omega
     intro g2 cap6 w6 ho6 hg6 hw6
     have hP:=CS.pushCl (unhide HA _) ho6 hg6 (by rw [size_alloc];exact hw6)
     have hrow6:=row_grow (unhide HA _).ocl hg6 (unhide HA _).row
     obtain ⟨z0,z1,z2,z3,z4,z5,z6,zzf⟩:=ck_c hrow6
     have HP:=hide hP
     clear hP hrow6 ho6 hg6 hw6 c0 c1 c2 c3 c4 c5 c6 zf
     go_wp2_with fail
     go_end0
     exact ⟨rfl,by rw [unhide HCAL2];exact ⟨_,_,_,_,_,_,_,_,_,(unhide HP).1⟩,(CF.of hg ((unhide hX).trans (Ext.alloc _ _))).trans (unhide HP).2⟩
    ·rw [if_pos hkk] at HCAL2
     have hd1:(kk == (ln:Int)) = false:=by simpa using hkk
     have hd2:(kk != (ln:Int)) = true:=by rw [bne,hd1];rfl
     go_wp2_with (go_at_call 15;refine Calls.mono (unhide HBI _) ?_;rintro e w4 ⟨rfl,hw⟩;obtain rfl:=hw.symm)
     go_end0
     exact ⟨rfl,by rw [unhide HCAL2];exact ⟨_,_,_,_,_,_,_,_,_,(unhide HS).setE 12⟩,(CF.of hg (unhide hX)).set 6 _⟩
end Go.Proofs.YtgkdmgndebifiaaGreatDoor
namespace Go.Proofs.YtgkdmgndebifiaaGreatDoor
open Go.RowKit Go.Maps
variable {g:Nat} {w w' w2:World} {fv:Value} {fs:List PFn} {d:DK}
def WkOf (g:Nat) (fv:Value) (fs:List PFn) (F:Nat) (p:PN):Prop :=
 ∀ (w:World) (d:DK) (v:Value),CK g w fv fs d → RepN w (fun b => b < g) p v → d.see.length + nsz p ≤ 100000 → d.sl.length + nsz p ≤ 100000 → d.cl.length + nsz p ≤ 100000 → 0 ≤ d.lp → d.lp + nsz p ≤ 100000 → 0 ≤ d.lc → d.lc + nsz p ≤ 100000 →
  Calls Tryz.prog 17 #[.pointer (some ⟨g,0,none⟩),v] w (CAns g w fv fs (dW fs F p d))
theorem CF.rep {p:PN} {v:Value} (h:CF g w w') (hr:RepN w (fun b => b < g) p v):RepN w' (fun b => b < g) p v:=RepN.to (fun b hb => ⟨hb,h.low b hb⟩) p v hr
theorem CF.repL {l:List PN} {a:Option Addr} (h:CF g w w') (hr:RepNL w (fun b => b < g) l a):RepNL w' (fun b => b < g) l a:=RepNL.to (fun b hb => ⟨hb,h.low b hb⟩) l a hr
set_option maxHeartbeats 1000000 in
theorem walk_bad {F:Nat} {p:PN} {v:Value} (h:CK g w fv fs d) (hr:RepN w (fun b => b < g) p v) (he:d.e ≠ 0):Calls Tryz.prog 17 #[.pointer (some ⟨g,0,none⟩),v] w (CAns g w fv fs (dW fs F p d)):=by
 rw [dW_bad fs F p d he]
 have hg:=h.lt
 obtain ⟨k,o,s,n,l⟩:=p
 rw [RepN] at hr
 obtain ⟨a,cap,rfl,_,_⟩:=hr
 have HE:=hide (h.ext (Ext.alloc _ (nodO k o s n (.slice a l.length cap))))
 have he2:(d.e == 0) = false:=by simpa using he
 have he3:(d.e != 0) = true:=by simp [he]
 obtain ⟨sa,ns,sc,ca,nc,cc,ea,ne,ec,h⟩:=h
 obtain ⟨c0,c1,c2,c3,c4,c5,c6,zf⟩:=ck_c h.row
 clear h he
 go_enter Tryz.func17,Tryz.ntmps17
 go_wp2
 go_end0
 exact ⟨rfl,unhide HE,CF.of hg (Ext.alloc _ _)⟩
set_option maxHeartbeats 1000000 in
theorem walk_leave5 {F:Nat} {o n:Int} {s:ByteArray} {l:List PN} {v:Value} (h:CK g w fv fs d) (hr:RepN w (fun b => b < g) ⟨5,o,s,n,l⟩ v) (he:d.e = 0):Calls Tryz.prog 17 #[.pointer (some ⟨g,0,none⟩),v] w (CAns g w fv fs (dW fs (F + 1) ⟨5,o,s,n,l⟩ d)):=by
 have hg:=h.lt
 rw [RepN] at hr
 obtain ⟨a,cap,rfl,_,_⟩:=hr
 have HE:=hide (h.ext (Ext.alloc _ (nodO 5 o s n (.slice a l.length cap))))
 obtain ⟨sa,ns,sc,ca,nc,cc,ea,ne,ec,h⟩:=h
 have H:=hide h
 have hrow:=h.row
 rw [he] at hrow
 obtain ⟨c0,c1,c2,c3,c4,c5,c6,zf⟩:=ck_c hrow
 rw [dW,if_neg (by simp [he]),if_neg (show ¬ (5:Int) = 4 by decide),if_pos (show (5:Int) = 5 ∨ (5:Int) = 6 by decide)]
 clear h hrow he
 by_cases hz:d.lp = 0
 ·rw [if_pos hz]
  rw [hz] at c5
  clear hz
  go_enter Tryz.func17,Tryz.ntmps17
  go_wp2
  go_end0
  exact ⟨rfl,⟨_,_,_,_,_,_,_,_,_,((unhide H).setE 11).ext (Ext.alloc _ _)⟩,((CF.refl g w).set 6 _).trans (CF.of ((unhide H).setE 11).lt (Ext.alloc _ _))⟩
 ·rw [if_neg hz]
  have hz2:(d.lp == 0) = false:=by simpa using hz
  go_enter Tryz.func17,Tryz.ntmps17
  go_wp2
  go_end0
  exact ⟨rfl,unhide HE,CF.of hg (Ext.alloc _ _)⟩
set_option maxHeartbeats 1000000 in
theorem walk_leave6 {F:Nat} {o n:Int} {s:ByteArray} {l:List PN} {v:Value} (h:CK g w fv fs d) (hr:RepN w (fun b => b < g) ⟨6,o,s,n,l⟩ v) (he:d.e = 0):Calls Tryz.prog 17 #[.pointer (some ⟨g,0,none⟩),v] w (CAns g w fv fs (dW fs (F + 1) ⟨6,o,s,n,l⟩ d)):=by
 have hg:=h.lt
 rw [RepN] at hr
 obtain ⟨a,cap,rfl,_,_⟩:=hr
 have HE:=hide (h.ext (Ext.alloc _ (nodO 6 o s n (.slice a l.length cap))))
 obtain ⟨sa,ns,sc,ca,nc,cc,ea,ne,ec,h⟩:=h
 have H:=hide h
 have hrow:=h.row
 rw [he] at hrow
 obtain ⟨c0,c1,c2,c3,c4,c5,c6,zf⟩:=ck_c hrow
 rw [dW,if_neg (by simp [he]),if_neg (show ¬ (6:Int) = 4 by decide),if_pos (show (6:Int) = 5 ∨ (6:Int) = 6 by decide)]
 clear h hrow he
 by_cases hz:d.lp = 0
 ·rw [if_pos hz]
  rw [hz] at c5
  clear hz
  go_enter Tryz.func17,Tryz.ntmps17
  go_wp2
  go_end0
  exact ⟨rfl,⟨_,_,_,_,_,_,_,_,_,((unhide H).setE 11).ext (Ext.alloc _ _)⟩,((CF.refl g w).set 6 _).trans (CF.of ((unhide H).setE 11).lt (Ext.alloc _ _))⟩
 ·rw [if_neg hz]
  have hz2:(d.lp == 0) = false:=by simpa using hz
  go_enter Tryz.func17,Tryz.ntmps17
  go_wp2
  go_end0
  exact ⟨rfl,unhide HE,CF.of hg (Ext.alloc _ _)⟩
set_option maxHeartbeats 2000000 in
theorem walk_while {F:Nat} {o n:Int} {s:ByteArray} {x y:PN} {v:Value} (hx:WkOf g fv fs F x) (hy:WkOf g fv fs F y) (h:CK g w fv fs d) (hr:RepN w (fun b => b < g) ⟨4,o,s,n,[x,y]⟩ v) (he:d.e = 0) (hb1:d.see.length + nsz x + nsz y < 100000) (hb2:d.sl.length + nsz x + nsz y < 100000) (hb3:d.cl.length + nsz x + nsz y < 100000) (hb4:0 ≤ d.lp) (hb5:d.lp + nsz x + nsz y < 100000) (hb6:0 ≤ d.lc) (hb7:d.lc + nsz x + nsz y < 100000) :
  Calls Tryz.prog 17 #[.pointer (some ⟨g,0,none⟩),v] w (CAns g w fv fs (dW fs (F + 1) ⟨4,o,s,n,[x,y]⟩ d)):=by
 have hg:=h.lt
 rw [RepN] at hr
 obtain ⟨a,cap,rfl,hcap,hl⟩:=hr
 have X0:Ext w (w.alloc (nodO 4 o s n (.slice a 2 cap))):=Ext.alloc _ _
 have HB:=hide (Go.heap_alloc_new w (nodO 4 o s n (.slice a 2 cap)))
 have hl0:RepNL (w.alloc (nodO 4 o s n (.slice a 2 cap))) (fun b => b < g) [x,y] a:=(CF.of hg X0).repL hl
 obtain ⟨b1,o1,x0,x1,x2,x3,x4,rfl,hf1,r1,e0,e1,e2,e3,e4⟩:=repNL_at hl0 0 x rfl
 simp only [Nat.zero_mul,Nat.add_zero] at e0 e1 e2 e3 e4
 have q1:=dW_le fs F x d
 have HX:=hide (hx _ d _ (h.ext X0) r1 (by omega) (by omega) (by omega) hb4 (by omega) hb6 (by omega))
 have HL:=hide hl0
 have HX0:=hide X0
 obtain ⟨d1,hd1⟩:∃ d1,d1 = dW fs F x d:=⟨_,rfl⟩
 have HW:Hd (dW fs (F + 1) ⟨4,o,s,n,[x,y]⟩ d = { dW fs F y { d1 with lp:=d1.lp + 1 } with lp:=(dW fs F y { d1 with lp:=d1.lp + 1 }).lp - 1 }):=by
  rw [Hd,dW,if_neg (by simp [he]),if_pos rfl,hd1]
 rw [← hd1] at HX q1
 have p1:=q1.sl
 have p2:=q1.cl
 have p3:=q1.see
 have p4:=q1.lc
 have p5:=q1.lc0
 have p6:=q1.lp
 have HY:=hide (fun (W:World) (u:Value) (k:CK g W fv fs { d1 with lp:=d1.lp + 1 }) (r:RepN W (fun b => b < g) y u) => hy W { d1 with lp:=d1.lp + 1 } u k r (by show d1.see.length + nsz y ≤ _;omega) (by show d1.sl.length + nsz y ≤ _;omega) (by show d1.cl.length + nsz y ≤ _;omega) (by show 0 ≤ d1.lp + 1;omega) (by show d1.lp + 1 + (nsz y:Int) ≤ _;omega) (by show 0 ≤ d1.lc;omega) (by show d1.lc + (nsz y:Int) ≤ _;omega))
 have q2:=dW_le fs F y { d1 with lp:=d1.lp + 1 }
 have q2lp:(dW fs F y { d1 with lp:=d1.lp + 1 }).lp = d1.lp + 1:=q2.lp
 obtain ⟨d2,hd2⟩:∃ d2,d2 = dW fs F y { d1 with lp:=d1.lp + 1 }:=⟨_,rfl⟩
 rw [← hd2] at HW HY q2lp
 rw [unhide HW]
 obtain ⟨sa,ns,sc,ca,nc,cc,ea,ne,ec,h⟩:=h
 have hrow:=h.row
 rw [he] at hrow
 obtain ⟨c0,c1,c2,c3,c4,c5,c6,zf⟩:=ck_c hrow
 have hlp1:0 ≤ d1.lp:=by omega
 have hlp2:d1.lp ≤ 100000:=by omega
 have hlp3:1 ≤ d2.lp:=by omega
 have hlp4:d2.lp ≤ 100001:=by omega
 clear h hrow hl0 r1 hl X0 hd1 hd2 q1 q2 p1 p2 p3 p4 p5 p6 q2lp hx hy HW hf1 he
 go_enter Tryz.func17,Tryz.ntmps17
 go_wp2_with (first
  | (have T9:=unhide HX;go_at_call 17;refine Calls.mono T9 ?_;rintro e w1 ⟨rfl,hk,hcf⟩;obtain ⟨sa1,ns1,sc1,ca1,nc1,cc1,ea1,ne1,ec1,hS⟩:=hk;have S1:=hide hS;have F1:=hide hcf;obtain ⟨z0,z1,z2,z3,z4,z5,z6,zz⟩:=ck_c hS.row;have hRB:=hcf.rowN (by show w.heap.size ≠ g;omega) (unhide HB);have f4:=rowC hRB 4 rfl;have hRL:=hcf.repL (unhide HL);obtain ⟨b2,o2,y0,y1,y2,y3,y4,heq2,hf2,r2,g0,g1,g2,g3,g4⟩:=repNL_at hRL 1 y rfl;injection heq2 with heq2;injection heq2 with hb2e ho2e _;subst hb2e ho2e;simp only [Nat.one_mul] at g0 g1 g2 g3 g4;have hcs:∀ (oo:Nat) (uu:Value),w1.cell? ⟨b1,oo,none⟩ = some uu → (w1.setCell ⟨g,5,none⟩ (.int .i64 (d1.lp + 1))).cell? ⟨b1,oo,none⟩ = some uu:=(fun oo uu hh => by rw [World.cell?_of_block (w:=w1) (Below.heap_setCell w1 ⟨g,5,none⟩ _ b1 (by show b1 ≠ g;omega))];exact hh);have m0:=hcs _ _ g0;have m1:=hcs _ _ g1;have m2:=hcs _ _ g2;have m3:=hcs _ _ g3;have m4:=hcs _ _ g4;clear hcs;have R2:=hide r2;have hbg1:(b1 == g) = false:=(by simp;omega);have hwg1:(w.heap.size == g) = false:=(by simp;omega);clear hcf hS hRB hRL r2 T9 HX hf2)
  | (go_at_call 17;refine Calls.mono (unhide HY _ _ ⟨_,_,_,_,_,_,_,_,_,(unhide S1).setLp (d1.lp + 1)⟩ (((CF.refl g w1).set 5 _).rep (unhide R2))) ?_;rintro e w2 ⟨rfl,hk,hcf⟩;obtain ⟨sa2,ns2,sc2,ca2,nc2,cc2,ea2,ne2,ec2,hS⟩:=hk;have S2:=hide hS;have F2:=hide hcf;obtain ⟨u0,u1,u2,u3,u4,u5,u6,uz⟩:=ck_c hS.row;clear hcf hS))
 go_end0
 exact ⟨rfl,⟨_,_,_,_,_,_,_,_,_,(unhide S2).setLp (d2.lp - 1)⟩,((CF.of hg (unhide HX0)).trans ((unhide F1).trans (((CF.refl g w1).set 5 _).trans (unhide F2)))).set 5 _⟩
end Go.Proofs.YtgkdmgndebifiaaGreatDoor
