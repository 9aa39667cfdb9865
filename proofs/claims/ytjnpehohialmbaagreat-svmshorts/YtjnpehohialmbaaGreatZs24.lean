/- What is built in,by the document. -/
import Derived.Test.YtjnpehohialmbaaGreatZs23
set_option linter.unusedSimpArgs false
set_option linter.unusedVariables false
set_option maxRecDepth 10000
set_option maxHeartbeats 4000000
namespace Go.Proofs.YtjnpehohialmbaaGreat
open Go.RowKit
section
open Go.RowKit Go.Maps
def biW (l:List UInt8):Value:=match (biL.find? (fun p=>p.1.data.toList == l)).map (·.2) with
 | some (o,n) => .tuple #[.int .i64 o,.int .i64 n,.bool true]
 | none => .tuple #[.int .i64 0,.int .i64 0,.bool false]
theorem biV_eq (s:ByteArray):biV s=biW s.data.toList:=rfl
theorem biV_no {s:ByteArray} (h0:(s.toList == [112,117,115,104])=false) (h1:(s.toList == [99,120])=false) (h2:(s.toList == [108,101,110])=false) (h3:(s.toList == [114,101])=false) (h4:(s.toList == [105,109])=false) (h5:(s.toList == [99,111,110,106])=false):biV s = .tuple #[.int .i64 0,.int .i64 0,.bool false]:=by
 rw[ByteArray.toList_eq] at h0 h1 h2 h3 h4 h5;rw[biV_eq];generalize s.data.toList=l at *;have hf:biL.find? (fun p=>p.1.data.toList == l)=none:=by
  rw[List.find?_eq_none];intro x hx;simp only[biL,List.mem_cons,List.not_mem_nil,or_false] at hx;rcases hx with rfl | rfl | rfl | rfl | rfl | rfl
  ·intro e;rw[← beq_iff_eq.1 e] at h0;exact absurd h0 (by decide)
  ·intro e;rw[← beq_iff_eq.1 e] at h1;exact absurd h1 (by decide)
  ·intro e;rw[← beq_iff_eq.1 e] at h2;exact absurd h2 (by decide)
  ·intro e;rw[← beq_iff_eq.1 e] at h3;exact absurd h3 (by decide)
  ·intro e;rw[← beq_iff_eq.1 e] at h4;exact absurd h4 (by decide)
  ·intro e;rw[← beq_iff_eq.1 e] at h5;exact absurd h5 (by decide)
 unfold biW;rw[hf];rfl
theorem rbuiltin_w (s:ByteArray) (w:World):Calls Tryz.prog 37 #[.string s] w fun e w'=>e = .returned (biV s)∧w' = w:=by
 cases h0:(s.toList == [112,117,115,104])
 ·skip
  cases h1:(s.toList == [99,120])
  ·skip
   cases h2:(s.toList == [108,101,110])
   ·skip
    cases h3:(s.toList == [114,101])
    ·skip
     cases h4:(s.toList == [105,109])
     ·skip
      cases h5:(s.toList == [99,111,110,106])
      ·skip
       have HV:Hd (biV s = .tuple #[.int .i64 0,.int .i64 0,.bool false]):=biV_no h0 h1 h2 h3 h4 h5
       go_enter Tryz.func37,Tryz.ntmps37
       go_wp2_with fail
       rw[zu HV];exact bodyPost_ret (v:=.tuple #[.int .i64 0,.int .i64 0,.bool false]) (by simp[results,Tryz.results37]) rfl ⟨rfl,rfl⟩
      ·have HV:Hd (biV s = .tuple #[.int .i64 20,.int .i64 1,.bool true]):=by
        have e:s.data.toList = [99,111,110,106]:=by rw[← ByteArray.toList_eq];exact beq_iff_eq.1 h5
        unfold Hd;rw[biV_eq,e];rfl
       go_enter Tryz.func37,Tryz.ntmps37
       go_wp2_with fail
       rw[zu HV];exact bodyPost_ret (v:=.tuple #[.int .i64 20,.int .i64 1,.bool true]) (by simp[results,Tryz.results37]) rfl ⟨rfl,rfl⟩
     ·have HV:Hd (biV s = .tuple #[.int .i64 19,.int .i64 1,.bool true]):=by
       have e:s.data.toList = [105,109]:=by rw[← ByteArray.toList_eq];exact beq_iff_eq.1 h4
       unfold Hd;rw[biV_eq,e];rfl
      go_enter Tryz.func37,Tryz.ntmps37
      go_wp2_with fail
      rw[zu HV];exact bodyPost_ret (v:=.tuple #[.int .i64 19,.int .i64 1,.bool true]) (by simp[results,Tryz.results37]) rfl ⟨rfl,rfl⟩
    ·have HV:Hd (biV s = .tuple #[.int .i64 18,.int .i64 1,.bool true]):=by
      have e:s.data.toList = [114,101]:=by rw[← ByteArray.toList_eq];exact beq_iff_eq.1 h3
      unfold Hd;rw[biV_eq,e];rfl
     go_enter Tryz.func37,Tryz.ntmps37
     go_wp2_with fail
     rw[zu HV];exact bodyPost_ret (v:=.tuple #[.int .i64 18,.int .i64 1,.bool true]) (by simp[results,Tryz.results37]) rfl ⟨rfl,rfl⟩
   ·have HV:Hd (biV s = .tuple #[.int .i64 17,.int .i64 1,.bool true]):=by
     have e:s.data.toList = [108,101,110]:=by rw[← ByteArray.toList_eq];exact beq_iff_eq.1 h2
     unfold Hd;rw[biV_eq,e];rfl
    go_enter Tryz.func37,Tryz.ntmps37
    go_wp2_with fail
    rw[zu HV];exact bodyPost_ret (v:=.tuple #[.int .i64 17,.int .i64 1,.bool true]) (by simp[results,Tryz.results37]) rfl ⟨rfl,rfl⟩
  ·have HV:Hd (biV s = .tuple #[.int .i64 14,.int .i64 2,.bool true]):=by
    have e:s.data.toList = [99,120]:=by rw[← ByteArray.toList_eq];exact beq_iff_eq.1 h1
    unfold Hd;rw[biV_eq,e];rfl
   go_enter Tryz.func37,Tryz.ntmps37
   go_wp2_with fail
   rw[zu HV];exact bodyPost_ret (v:=.tuple #[.int .i64 14,.int .i64 2,.bool true]) (by simp[results,Tryz.results37]) rfl ⟨rfl,rfl⟩
 ·have HV:Hd (biV s = .tuple #[.int .i64 13,.int .i64 2,.bool true]):=by
   have e:s.data.toList = [112,117,115,104]:=by rw[← ByteArray.toList_eq];exact beq_iff_eq.1 h0
   unfold Hd;rw[biV_eq,e];rfl
  go_enter Tryz.func37,Tryz.ntmps37
  go_wp2_with fail
  rw[zu HV];exact bodyPost_ret (v:=.tuple #[.int .i64 13,.int .i64 2,.bool true]) (by simp[results,Tryz.results37]) rfl ⟨rfl,rfl⟩
end
section
open Go.RowKit Go.Maps
variable {g:Nat} {w w' w2:World} {fv:Value} {fs:List PFn} {d:DK}
theorem call_c (h:CK g w fv fs d) (hbc:d.cl.length≤100000) (hfl:fs.length≤100000) (k o n:Int) (s:ByteArray) (a:Option Addr) (ln cap:Nat) (hln:ln≤100000) (hps:∀ p ∈ fs,p.ps.length≤100000) :
  Calls Tryz.prog 67 #[.pointer (some ⟨g,0,none⟩),nodV k o s n (.slice a ln cap)] w (CAns g w fv fs (d.callD fs s ln)):=by
 have hg:=h.lt;by_cases he:d.e=0
 case neg =>
  have hu:d.callD fs s ln=d:=by unfold DK.callD;rw[if_pos he]
  rw[hu];have HE:=zh (h.ext (Ext.alloc _ (nodO k o s n (.slice a ln cap))));have he2:(d.e == 0)=false:=by simpa using he
  have he3:(d.e != 0)=true:=by simp[he]
  obtain⟨sa,ns,sc,ca,nc,cc,ea,ne,ec,h⟩:=h;obtain⟨c0,c1,c2,c3,c4,c5,c6,zf⟩:=ck_c h.row;clear h hu he
  go_enter Tryz.func67,Tryz.ntmps67
  go_wp2
  go_end0
  exact⟨rfl,zu HE,CF.of hg (Ext.alloc _ _)⟩
 obtain⟨sa,ns,sc,ca,nc,cc,ea,ne,ec,h⟩:=h;have hnc:=h.hnc;have H:=zh h;obtain⟨fa,fcap,rfl,hfc,hfl2⟩:=h.fl;have HFL:=zh hfl2;have hrow:=h.row;rw[he] at hrow;have HR:=zh hrow;have HPS:=zh hps;obtain⟨c0,c1,c2,c3,c4,c5,c6,zf⟩:=ck_c hrow;obtain⟨II0,hi,hz0,hz1,hz2⟩:=info_parts infoI;have HII:=zh hi;have ZII0:=zh hz0;have ZII1:=zh hz1;have ZII2:=zh hz2;clear hi hz0 hz1 hz2;have HX0:Hd (Ext w (w.alloc (nodO k o s n (.slice a ln cap)))):=Ext.alloc _ _;have HB0:Hd ((w.alloc (nodO k o s n (.slice a ln cap))).heap[w.heap.size]? = some (nodO k o s n (.slice a ln cap))):=Go.heap_alloc_new w _;have hcal:d.callD fs s ln=match idxF fs s 0 with
   | some i=>if ((fs[i]?).map (·.ps.length)).getD 0≠ln then { d with e:=12 } else { d with cl:=d.cl++[(i:Int)] }
   | none=>match biP s with
    | none => { d with e:=11 }
    | some (op,k)=>if k≠(ln:Int) then { d with e:=12 } else { d with cl:=d.cl++[1000+op] }:=by unfold DK.callD;rw[if_neg (by simp[he])];rfl
 have HCAL:=zh hcal;clear h hrow hfl2 hcal hps he;generalize hFN:fs.length=fn at *
 go_enter Tryz.func67,Tryz.ntmps67
 go_wp2_with fail
 clear c0 c1 c2 c3 c4 c5 c6 zf
 go_loopw [4] (fun t wr => ∃ (j:Nat),t = .int .i64 j∧j≤fn∧Hd (Ext w wr)∧Hd (wr.heap[w.heap.size]? = some (nodO k o s n (.slice a ln cap)))∧Hd (∀ q ∈ fs.take j,(q.nm.data.toList == s.data.toList)=false)) (fun t _=>fn - (intOf t).toNat)
 case atStart=>exact⟨0,rfl,Nat.zero_le _,HX0,HB0,by rw[Hd,List.take_zero];intro q hq;cases hq⟩
 case round =>
  clear HX0 HB0;obtain⟨j,rfl,hj,hX,hB,hN⟩:=hrel;have hr:=(zu hX).row (zu HR);obtain⟨c0,c1,c2,c3,c4,c5,c6,zf⟩:=ck_c hr;have b2:=zr (zu hB) 2 rfl;have b4:=zr (zu hB) 4 rfl;have hzr:w.heap.size < wr.heap.size:=(Array.getElem?_eq_some_iff.1 (zu hB)).1;have HS:=zh ((zu H).ext (zu hX));clear hr;by_cases hlt:j < fn
  ·obtain⟨p,hp⟩:∃ p,fs[j]? = some p:=⟨_,List.getElem?_eq_getElem (by omega)⟩
   obtain⟨b,off,pa,pc,qa,qc,rfl,hbl,hc,hpc,_,_,_⟩:=(zu HFL).at j p hp;have e0:=(zu hX).cell (hc 0 _ rfl);have e1:=(zu hX).cell (hc 1 _ rfl);have hpl:=zu HPS p (List.mem_of_getElem? hp);have HW:Nonempty (RGw wr):=⟨⟨wr,Ext.refl _⟩⟩;have k0:∀ y:RGw wr,y.w.cell? ⟨g,0,none⟩=some (.slice (some ⟨b,off,none⟩) fn fcap):=fun y=>y.h.cell c0;have k1:∀ y:RGw wr,y.w.cell? ⟨b,off+j * 7,none⟩=some (.string p.nm):=fun y=>y.h.cell e0;have k2:∀ y:RGw wr,y.w.cell? ⟨b,off+j * 7+1,none⟩=some (.slice pa p.ps.length pc):=fun y=>y.h.cell e1;have k3:∀ y:RGw wr,y.w.cell? ⟨w.heap.size,2,none⟩=some (.string s):=fun y=>y.h.cell b2;have k4:∀ y:RGw wr,y.w.cell? ⟨w.heap.size,4,none⟩=some (.slice a ln cap):=fun y=>y.h.cell b4;clear hc hbl;cases hq:(p.nm.toList == s.toList)
   ·have HN2:Hd (∀ q ∈ fs.take (j+1),(q.nm.data.toList == s.data.toList)=false):=by
     intro q hq2;rw[List.take_succ_eq_append_getElem (by omega),(List.getElem?_eq_some_iff.1 hp).2] at hq2;rcases List.mem_append.1 hq2 with hq2 | hq2
     ·exact zu hN q hq2
     ·simp at hq2;subst hq2;rw[ByteArray.toList_eq,ByteArray.toList_eq] at hq;exact hq
    clear hp;generalize p.nm=pnm at *
    go_wp2_with fail
    refine wp_region_rx (W:=wr) (by kernel_rfl) (by kernel_rfl) (Ext.refl _) ?_
    repeat (go_big_quiet_step (fail))
    refine wpQuiet_nil ?_;rintro w4 ⟨n4,hn4⟩;have hx4:Ext wr w4:=hn4 ▸ n4.h;have X4:=zh ((zu hX).trans hx4);have B4:=zh (hx4.row (zu hB));clear hn4 n4 hx4
    go_wp2_with fail
    go_roundw
    case rel=>exact⟨j+1,by go_num,by omega,X4,B4,HN2⟩
    case measure=>simp[intOf];omega
   ·have hq2:(p.nm.data.toList == s.data.toList)=true:=by rw[ByteArray.toList_eq,ByteArray.toList_eq] at hq;exact hq
    have hidx:=idxF_some fs s 0 j p hp hq2 (zu hN);rw[Nat.zero_add] at hidx;have hpp:((fs[j]?).map (·.ps.length)).getD 0=p.ps.length:=by rw[hp];rfl
    by_cases hne:p.ps.length=ln
    ·have HC:Hd (d.callD fs s ln = { d with cl:=d.cl++[(j:Int)] }):=by rw[Hd,zu HCAL,hidx];simp only;rw[hpp,if_neg (by simp[hne])]
     clear hidx hp hpp;generalize hPL:p.ps.length=pl at *;have hd1:((pl:Int) == (ln:Int))=true:=by simp;omega
     have hd2:((pl:Int) != (ln:Int))=false:=by rw[bne,hd1];rfl
     have hd3:(pl:Int)=(ln:Int):=by omega
     generalize p.nm=pnm at *
     go_wp2_with fail
     refine wp_region_rx (W:=wr) (by kernel_rfl) (by kernel_rfl) (Ext.refl _) ?_
     repeat (go_big_quiet_step (fail))
     refine wpQuiet_nil ?_;rintro w4 ⟨n4,hn4⟩;have hx4:Ext wr w4:=hn4 ▸ n4.h;clear hn4 n4
     go_wp2_with fail
     refine wp_region_rx (W:=wr) (by kernel_rfl) (by kernel_rfl) hx4 ?_
     repeat (go_big_quiet_step (fail))
     refine wpQuiet_nil ?_;rintro w5 ⟨n5,hn5⟩;have hx5:Ext wr w5:=hn5 ▸ n5.h;clear hn5 n5 hx4 k0 k1 k2 k3 k4 HW c0 c1 c2 c3 c4 c5 c6 zf;have X5:=zh ((zu hX).trans hx5);have HA:=zh (fun ob=>((zu HS).ext hx5).ext (Ext.alloc _ ob));obtain⟨c0,c1,c2,c3,c4,c5,c6,zf⟩:=ck_c ((zu X5).row (zu HR));have hz5:=hx5.size;clear hx5
     go_wp2_with (at_builtin;refine wpList_append_where rfl (.tmp 54) (.tmp 56) 77 rfl (g+1) 3 II0 (.int .i64 0) 1 8 Tryz.underlying77 (zu HII) (zu ZII0) (zu ZII1) (zu ZII2) rfl (by decide) ca nc cc (inV d.cl) rfl (zu HA _).ocl ⟨w5.heap.size,0,none⟩ 1 1 [.int .i64 (j:Int)] rfl (by decide) rfl (cells_new w5 _ _) (one_int _) ?c1 ?c2 ?c3 ?_)
     case c1=>unfold maxLen;omega
     case c2=>omega
     case c3=>simp;omega
     intro g2 cap6 w6 ho6 hg6 hw6;have hP:=CS.pushCl (zu HA _) ho6 hg6 (by rw[size_alloc];exact hw6);have hrow6:=row_grow (zu HA _).ocl hg6 (zu HA _).row;obtain⟨z0,z1,z2,z3,z4,z5,z6,zzf⟩:=ck_c hrow6;have HP:=zh hP;clear hP hrow6 ho6 hg6 hw6 c0 c1 c2 c3 c4 c5 c6 zf
     go_wp2_with fail
     go_end0
     exact⟨rfl,by rw[zu HC];exact⟨_,_,_,_,_,_,_,_,_,(zu HP).1⟩,(CF.of hg ((zu X5).trans (Ext.alloc _ _))).trans (zu HP).2⟩
    ·have HC:Hd (d.callD fs s ln = { d with e:=12 }):=by rw[Hd,zu HCAL,hidx];simp only;rw[hpp,if_pos hne]
     clear hidx hp hpp;generalize hPL:p.ps.length=pl at *;have hd1:((pl:Int) == (ln:Int))=false:=by simp;omega
     have hd2:((pl:Int) != (ln:Int))=true:=by rw[bne,hd1];rfl
     have hd3:¬ (pl:Int)=(ln:Int):=by omega
     generalize p.nm=pnm at *
     go_wp2_with fail
     refine wp_region_rx (W:=wr) (by kernel_rfl) (by kernel_rfl) (Ext.refl _) ?_
     repeat (go_big_quiet_step (fail))
     refine wpQuiet_nil ?_;rintro w4 ⟨n4,hn4⟩;have hx4:Ext wr w4:=hn4 ▸ n4.h;clear hn4 n4
     go_wp2_with fail
     refine wp_region_rx (W:=wr) (by kernel_rfl) (by kernel_rfl) hx4 ?_
     repeat (go_big_quiet_step (fail))
     refine wpQuiet_nil ?_;rintro w5 ⟨n5,hn5⟩;have hx5:Ext wr w5:=hn5 ▸ n5.h;clear hn5 n5 hx4 k0 k1 k2 k3 k4 HW c0 c1 c2 c3 c4 c5 c6 zf;have X5:=zh ((zu hX).trans hx5);have HA:=zh ((zu HS).ext hx5);obtain⟨c0,c1,c2,c3,c4,c5,c6,zf⟩:=ck_c ((zu X5).row (zu HR));clear hx5
     go_wp2_with fail
     go_end0
     exact⟨rfl,by rw[zu HC];exact⟨_,_,_,_,_,_,_,_,_,(zu HA).setE 12⟩,(CF.of hg (zu X5)).set 6 _⟩
  ·have hjn:j=fn:=by omega
   have hidx:idxF fs s 0=none:=idxF_none fs s 0 (fun q hq=>zu hN q (by rw[hjn,← hFN,List.take_length];exact hq));have HCAL2:Hd (d.callD fs s ln=match biP s with
    | none => { d with e:=11 }
    | some (op,k)=>if k≠(ln:Int) then { d with e:=12 } else { d with cl:=d.cl++[1000+op] }):=by rw[Hd,zu HCAL,hidx]
   clear hidx hjn;have HBI:=zh (fun (W:World)=>rbuiltin_w s W);unfold biV at HBI;cases hbi:biP s with
   | none =>
    rw[hbi] at HBI HCAL2;simp only at HBI HCAL2
    go_wp2_with (go_at_call 37;refine Calls.mono (zu HBI _) ?_;rintro e w4 ⟨rfl,hw⟩;obtain rfl:=hw.symm)
    go_end0
    exact⟨rfl,by rw[zu HCAL2];exact⟨_,_,_,_,_,_,_,_,_,(zu HS).setE 11⟩,(CF.of hg (zu hX)).set 6 _⟩
   | some q =>
    obtain⟨op,kk⟩:=q;rw[hbi] at HBI HCAL2;simp only at HBI HCAL2;have hop:=biP_op hbi;by_cases hkk:kk=(ln:Int)
    ·rw[if_neg (by simp[hkk])] at HCAL2
     have hd1:(kk == (ln:Int))=true:=by simp[hkk]
     have hd2:(kk != (ln:Int))=false:=by rw[bne,hd1];rfl
     have HA:=zh (fun ob=>(zu HS).ext (Ext.alloc _ ob));have HKK:=zh hkk;clear hkk hbi
     go_wp2_with (first
      | (go_at_call 37;refine Calls.mono (zu HBI _) ?_;rintro e w4 ⟨rfl,hw⟩;obtain rfl:=hw.symm)
      | (at_builtin;refine wpList_append_where rfl (.tmp 73) (.tmp 76) 77 rfl (g+1) 3 II0 (.int .i64 0) 1 8 Tryz.underlying77 (zu HII) (zu ZII0) (zu ZII1) (zu ZII2) rfl (by decide) ca nc cc (inV d.cl) rfl (zu HA _).ocl ⟨wr.heap.size,0,none⟩ 1 1 [.int .i64 (1000+op)] rfl (by decide) rfl (cells_new wr _ _) (one_int _) ?c1 ?c2 ?c3 ?_))
     case c1=>unfold maxLen;omega
     case c2=>omega
     case c3=>simp;omega
     intro g2 cap6 w6 ho6 hg6 hw6;have hP:=CS.pushCl (zu HA _) ho6 hg6 (by rw[size_alloc];exact hw6);have hrow6:=row_grow (zu HA _).ocl hg6 (zu HA _).row;obtain⟨z0,z1,z2,z3,z4,z5,z6,zzf⟩:=ck_c hrow6;have HP:=zh hP;clear hP hrow6 ho6 hg6 hw6 c0 c1 c2 c3 c4 c5 c6 zf
     go_wp2_with fail
     go_end0
     exact⟨rfl,by rw[zu HCAL2];exact⟨_,_,_,_,_,_,_,_,_,(zu HP).1⟩,(CF.of hg ((zu hX).trans (Ext.alloc _ _))).trans (zu HP).2⟩
    ·rw[if_pos hkk] at HCAL2
     have hd1:(kk == (ln:Int))=false:=by simpa using hkk
     have hd2:(kk != (ln:Int))=true:=by rw[bne,hd1];rfl
     go_wp2_with (go_at_call 37;refine Calls.mono (zu HBI _) ?_;rintro e w4 ⟨rfl,hw⟩;obtain rfl:=hw.symm)
     go_end0
     exact⟨rfl,by rw[zu HCAL2];exact⟨_,_,_,_,_,_,_,_,_,(zu HS).setE 12⟩,(CF.of hg (zu hX)).set 6 _⟩
end
section
open Go.RowKit Go.Maps
variable {g:Nat} {w w' w2:World} {fv:Value} {fs:List PFn} {d:DK}
def WkOf (g:Nat) (fv:Value) (fs:List PFn) (F:Nat) (p:PN):Prop :=
 ∀ (w:World) (d:DK) (v:Value),CK g w fv fs d→RepN w (fun b=>b < g) p v→d.see.length+nsz p≤100000→d.sl.length+nsz p≤100000→d.cl.length+nsz p≤100000→0≤d.lp→d.lp+nsz p≤100000→0≤d.lc→d.lc+nsz p≤100000 →
  Calls Tryz.prog 39 #[.pointer (some ⟨g,0,none⟩),v] w (CAns g w fv fs (dW fs F p d))
theorem CF.rep {p:PN} {v:Value} (h:CF g w w') (hr:RepN w (fun b=>b < g) p v):RepN w' (fun b=>b < g) p v:=RepN.to (fun b hb=>⟨hb,h.low b hb⟩) p v hr
theorem CF.repL {l:List PN} {a:Option Addr} (h:CF g w w') (hr:RepNL w (fun b=>b < g) l a):RepNL w' (fun b=>b < g) l a:=RepNL.to (fun b hb=>⟨hb,h.low b hb⟩) l a hr
theorem walk_bad {F:Nat} {p:PN} {v:Value} (h:CK g w fv fs d) (hr:RepN w (fun b=>b < g) p v) (he:d.e≠0):Calls Tryz.prog 39 #[.pointer (some ⟨g,0,none⟩),v] w (CAns g w fv fs (dW fs F p d)):=by
 rw[dW_bad fs F p d he];have hg:=h.lt;obtain⟨k,o,s,n,l⟩:=p;rw[RepN] at hr;obtain⟨a,cap,rfl,_,_⟩:=hr;have HE:=zh (h.ext (Ext.alloc _ (nodO k o s n (.slice a l.length cap))));have he2:(d.e == 0)=false:=by simpa using he
 have he3:(d.e != 0)=true:=by simp[he]
 obtain⟨sa,ns,sc,ca,nc,cc,ea,ne,ec,h⟩:=h;obtain⟨c0,c1,c2,c3,c4,c5,c6,zf⟩:=ck_c h.row;clear h he
 go_enter Tryz.func39,Tryz.ntmps39
 go_wp2
 go_end0
 exact⟨rfl,zu HE,CF.of hg (Ext.alloc _ _)⟩
theorem walk_leave5 {F:Nat} {o n:Int} {s:ByteArray} {l:List PN} {v:Value} (h:CK g w fv fs d) (hr:RepN w (fun b=>b < g) ⟨5,o,s,n,l⟩ v) (he:d.e=0):Calls Tryz.prog 39 #[.pointer (some ⟨g,0,none⟩),v] w (CAns g w fv fs (dW fs (F+1) ⟨5,o,s,n,l⟩ d)):=by
 have hg:=h.lt;rw[RepN] at hr;obtain⟨a,cap,rfl,_,_⟩:=hr;have HE:=zh (h.ext (Ext.alloc _ (nodO 5 o s n (.slice a l.length cap))));obtain⟨sa,ns,sc,ca,nc,cc,ea,ne,ec,h⟩:=h;have H:=zh h;have hrow:=h.row;rw[he] at hrow;obtain⟨c0,c1,c2,c3,c4,c5,c6,zf⟩:=ck_c hrow;rw[dW,if_neg (by simp[he]),if_neg (show ¬ (5:Int)=4 by decide),if_pos (show (5:Int)=5∨(5:Int)=6 by decide)];clear h hrow he;by_cases hz:d.lp=0
 ·rw[if_pos hz]
  rw[hz] at c5;clear hz
  go_enter Tryz.func39,Tryz.ntmps39
  go_wp2
  go_end0
  exact⟨rfl,⟨_,_,_,_,_,_,_,_,_,((zu H).setE 11).ext (Ext.alloc _ _)⟩,((CF.refl g w).set 6 _).trans (CF.of ((zu H).setE 11).lt (Ext.alloc _ _))⟩
 ·rw[if_neg hz]
  have hz2:(d.lp == 0)=false:=by simpa using hz
  go_enter Tryz.func39,Tryz.ntmps39
  go_wp2
  go_end0
  exact⟨rfl,zu HE,CF.of hg (Ext.alloc _ _)⟩
theorem walk_leave6 {F:Nat} {o n:Int} {s:ByteArray} {l:List PN} {v:Value} (h:CK g w fv fs d) (hr:RepN w (fun b=>b < g) ⟨6,o,s,n,l⟩ v) (he:d.e=0):Calls Tryz.prog 39 #[.pointer (some ⟨g,0,none⟩),v] w (CAns g w fv fs (dW fs (F+1) ⟨6,o,s,n,l⟩ d)):=by
 have hg:=h.lt;rw[RepN] at hr;obtain⟨a,cap,rfl,_,_⟩:=hr;have HE:=zh (h.ext (Ext.alloc _ (nodO 6 o s n (.slice a l.length cap))));obtain⟨sa,ns,sc,ca,nc,cc,ea,ne,ec,h⟩:=h;have H:=zh h;have hrow:=h.row;rw[he] at hrow;obtain⟨c0,c1,c2,c3,c4,c5,c6,zf⟩:=ck_c hrow;rw[dW,if_neg (by simp[he]),if_neg (show ¬ (6:Int)=4 by decide),if_pos (show (6:Int)=5∨(6:Int)=6 by decide)];clear h hrow he;by_cases hz:d.lp=0
 ·rw[if_pos hz]
  rw[hz] at c5;clear hz
  go_enter Tryz.func39,Tryz.ntmps39
  go_wp2
  go_end0
  exact⟨rfl,⟨_,_,_,_,_,_,_,_,_,((zu H).setE 11).ext (Ext.alloc _ _)⟩,((CF.refl g w).set 6 _).trans (CF.of ((zu H).setE 11).lt (Ext.alloc _ _))⟩
 ·rw[if_neg hz]
  have hz2:(d.lp == 0)=false:=by simpa using hz
  go_enter Tryz.func39,Tryz.ntmps39
  go_wp2
  go_end0
  exact⟨rfl,zu HE,CF.of hg (Ext.alloc _ _)⟩
theorem walk_while {F:Nat} {o n:Int} {s:ByteArray} {x y:PN} {v:Value} (hx:WkOf g fv fs F x) (hy:WkOf g fv fs F y) (h:CK g w fv fs d) (hr:RepN w (fun b=>b < g) ⟨4,o,s,n,[x,y]⟩ v) (he:d.e=0) (hb1:d.see.length+nsz x+nsz y < 100000) (hb2:d.sl.length+nsz x+nsz y < 100000) (hb3:d.cl.length+nsz x+nsz y < 100000) (hb4:0≤d.lp) (hb5:d.lp+nsz x+nsz y < 100000) (hb6:0≤d.lc) (hb7:d.lc+nsz x+nsz y < 100000) :
  Calls Tryz.prog 39 #[.pointer (some ⟨g,0,none⟩),v] w (CAns g w fv fs (dW fs (F+1) ⟨4,o,s,n,[x,y]⟩ d)):=by
 have hg:=h.lt;rw[RepN] at hr;obtain⟨a,cap,rfl,hcap,hl⟩:=hr;have X0:Ext w (w.alloc (nodO 4 o s n (.slice a 2 cap))):=Ext.alloc _ _;have HB:=zh (Go.heap_alloc_new w (nodO 4 o s n (.slice a 2 cap)));have hl0:RepNL (w.alloc (nodO 4 o s n (.slice a 2 cap))) (fun b=>b < g) [x,y] a:=(CF.of hg X0).repL hl;obtain⟨b1,o1,x0,x1,x2,x3,x4,rfl,hf1,r1,e0,e1,e2,e3,e4⟩:=repNL_at hl0 0 x rfl;simp only[Nat.zero_mul,Nat.add_zero] at e0 e1 e2 e3 e4;have q1:=dW_le fs F x d;have HX:=zh (hx _ d _ (h.ext X0) r1 (by omega) (by omega) (by omega) hb4 (by omega) hb6 (by omega));have HL:=zh hl0;have HX0:=zh X0;obtain⟨d1,hd1⟩:∃ d1,d1=dW fs F x d:=⟨_,rfl⟩;have HW:Hd (dW fs (F+1) ⟨4,o,s,n,[x,y]⟩ d = { dW fs F y { d1 with lp:=d1.lp+1 } with lp:=(dW fs F y { d1 with lp:=d1.lp+1 }).lp - 1 }):=by
  rw[Hd,dW,if_neg (by simp[he]),if_pos rfl,hd1]
 rw[← hd1] at HX q1;have p1:=q1.sl;have p2:=q1.cl;have p3:=q1.see;have p4:=q1.lc;have p5:=q1.lc0;have p6:=q1.lp;have HY:=zh (fun (W:World) (u:Value) (k:CK g W fv fs { d1 with lp:=d1.lp+1 }) (r:RepN W (fun b=>b < g) y u)=>hy W { d1 with lp:=d1.lp+1 } u k r (by show d1.see.length+nsz y≤_;omega) (by show d1.sl.length+nsz y≤_;omega) (by show d1.cl.length+nsz y≤_;omega) (by show 0≤d1.lp+1;omega) (by show d1.lp+1+(nsz y:Int)≤_;omega) (by show 0≤d1.lc;omega) (by show d1.lc+(nsz y:Int)≤_;omega));have q2:=dW_le fs F y { d1 with lp:=d1.lp+1 };have q2lp:(dW fs F y { d1 with lp:=d1.lp+1 }).lp=d1.lp+1:=q2.lp;obtain⟨d2,hd2⟩:∃ d2,d2=dW fs F y { d1 with lp:=d1.lp+1 }:=⟨_,rfl⟩;rw[← hd2] at HW HY q2lp;rw[zu HW];obtain⟨sa,ns,sc,ca,nc,cc,ea,ne,ec,h⟩:=h;have hrow:=h.row
 rw[he] at hrow;obtain⟨c0,c1,c2,c3,c4,c5,c6,zf⟩:=ck_c hrow;have hlp1:0≤d1.lp:=by omega
 have hlp2:d1.lp≤100000:=by omega
 have hlp3:1≤d2.lp:=by omega
 have hlp4:d2.lp≤100001:=by omega
 clear h hrow hl0 r1 hl X0 hd1 hd2 q1 q2 p1 p2 p3 p4 p5 p6 q2lp hx hy HW hf1 he
 go_enter Tryz.func39,Tryz.ntmps39
 go_wp2_with (first
  | (have T9:=zu HX;go_at_call 39;refine Calls.mono T9 ?_;rintro e w1 ⟨rfl,hk,hcf⟩;obtain⟨sa1,ns1,sc1,ca1,nc1,cc1,ea1,ne1,ec1,hS⟩:=hk;have S1:=zh hS;have F1:=zh hcf;obtain⟨z0,z1,z2,z3,z4,z5,z6,zz⟩:=ck_c hS.row;have hRB:=hcf.rowN (by show w.heap.size≠g;omega) (zu HB);have f4:=zr hRB 4 rfl;have hRL:=hcf.repL (zu HL);obtain⟨b2,o2,y0,y1,y2,y3,y4,heq2,hf2,r2,g0,g1,g2,g3,g4⟩:=repNL_at hRL 1 y rfl;injection heq2 with heq2;injection heq2 with hb2e ho2e _;subst hb2e ho2e;simp only[Nat.one_mul] at g0 g1 g2 g3 g4;have hcs:∀ (oo:Nat) (uu:Value),w1.cell? ⟨b1,oo,none⟩=some uu→(w1.setCell ⟨g,5,none⟩ (.int .i64 (d1.lp+1))).cell? ⟨b1,oo,none⟩=some uu:=(fun oo uu hh=>by rw[World.cell?_of_block (w:=w1) (Below.heap_setCell w1 ⟨g,5,none⟩ _ b1 (by show b1≠g;omega))];exact hh);have m0:=hcs _ _ g0;have m1:=hcs _ _ g1;have m2:=hcs _ _ g2;have m3:=hcs _ _ g3;have m4:=hcs _ _ g4;clear hcs;have R2:=zh r2;have hbg1:(b1 == g)=false:=(by simp;omega);have hwg1:(w.heap.size == g)=false:=(by simp;omega);clear hcf hS hRB hRL r2 T9 HX hf2)
  | (go_at_call 39;refine Calls.mono (zu HY _ _ ⟨_,_,_,_,_,_,_,_,_,(zu S1).setLp (d1.lp+1)⟩ (((CF.refl g w1).set 5 _).rep (zu R2))) ?_;rintro e w2 ⟨rfl,hk,hcf⟩;obtain⟨sa2,ns2,sc2,ca2,nc2,cc2,ea2,ne2,ec2,hS⟩:=hk;have S2:=zh hS;have F2:=zh hcf;obtain⟨u0,u1,u2,u3,u4,u5,u6,uz⟩:=ck_c hS.row;clear hcf hS))
 go_end0
 exact⟨rfl,⟨_,_,_,_,_,_,_,_,_,(zu S2).setLp (d2.lp - 1)⟩,((CF.of hg (zu HX0)).trans ((zu F1).trans (((CF.refl g w1).set 5 _).trans (zu F2)))).set 5 _⟩
end
section
open Go.RowKit Go.Maps
variable {g:Nat} {w w' w2:World} {fv:Value} {fs:List PFn} {d:DK}
theorem walk_use2 {F:Nat} {o n:Int} {s:ByteArray} {l:List PN} {v:Value} (hfl:fs.length≤100000) (hps:∀ p ∈ fs,p.ps.length≤100000) (hw:∀ x ∈ l,WkOf g fv fs F x) (h:CK g w fv fs d) (hr:RepN w (fun b=>b < g) ⟨2,o,s,n,l⟩ v) (he:d.e=0) (hb1:d.see.length+nszL l < 100000) (hb2:d.sl.length+nszL l < 100000) (hb3:d.cl.length+nszL l < 100000) (hb4:0≤d.lp) (hb5:d.lp+nszL l < 100000) (hb6:0≤d.lc) (hb7:d.lc+nszL l < 100000) (hll:l.length≤100000) :
  Calls Tryz.prog 39 #[.pointer (some ⟨g,0,none⟩),v] w (CAns g w fv fs (dEnd fs 2 s l.length d.see.length (l.foldl (fun d x=>dW fs F x d) (dBeg 2 s d)))):=by
 have hg:=h.lt;rw[RepN] at hr;obtain⟨a,cap,rfl,hcap,hl⟩:=hr;have hlenz:∀ j,nszL (l.take j)≤nszL l:=fun j=>by
  have h9:=nszL_append (l.take j) (l.drop j);rw[List.take_append_drop] at h9;omega
 have hatz:∀ (j:Nat) (x:PN),l[j]? = some x→nszL (l.take j)+nsz x≤nszL l:=fun j x hx=>by
  have hlt:=(List.getElem?_eq_some_iff.1 hx).1;have h9:=nszL_append (l.take j) (l.drop j);rw[List.take_append_drop,List.drop_eq_getElem_cons hlt,(List.getElem?_eq_some_iff.1 hx).2,nszL] at h9;omega
 have hbg:dBeg 2 s d=d.use s:=by unfold dBeg;rw[if_pos (by decide)]
 rw[hbg];obtain⟨mk,hmk⟩:∃ mk,mk=d.see.length:=⟨_,rfl⟩;rw[← hmk];have X0:Ext w (w.alloc (nodO 2 o s n (.slice a l.length cap))):=Ext.alloc _ _;have HB:=zh (Go.heap_alloc_new w (nodO 2 o s n (.slice a l.length cap)));have HL0:=zh ((CF.of hg X0).repL hl);have HK0:=zh (h.ext X0);have HX0:=zh (CF.of hg X0);have HU:=zh (use_c (h.ext X0) he (by omega) (by omega) s);obtain⟨u1,u2,u3,u4,u5⟩:=use_le d s;obtain⟨d0,hd0⟩:∃ d0,d0=(d.use s):=⟨_,rfl⟩;rw[← hd0] at HU u1 u2 u3 u4 u5 ⊢;have hs0:d0.see=d.see:=u3;have hs1:d0.sl.length≤d.sl.length+1:=u1;have hs2:d0.cl=d.cl:=u2;have hs3:d0.lc=d.lc:=u4;have hs4:d0.lp=d.lp:=u5;have HFO:=zh (fun (j:Nat)=>fold_le fs F (fun q e=>dW_le fs F q e) (l.take j) d0);have HPRE:=zh (fold_pre fs F (fun q e=>dW_pre fs F q e) l d0)
 have hwk:∀ (wr:World) (j:Nat) (x:PN) (u:Value),l[j]? = some x→CK g wr fv fs ((l.take j).foldl (fun d x=>dW fs F x d) d0)→RepN wr (fun b=>b < g) x u→Calls Tryz.prog 39 #[.pointer (some ⟨g,0,none⟩),u] wr (CAns g wr fv fs ((l.take (j+1)).foldl (fun d x=>dW fs F x d) d0)):=fun wr j x u hx k r=>by
  have hlt:=(List.getElem?_eq_some_iff.1 hx).1;have e9:l.take (j+1)=l.take j++[x]:=by rw[List.take_succ_eq_append_getElem hlt,(List.getElem?_eq_some_iff.1 hx).2]
  rw[e9,List.foldl_append,List.foldl_cons,List.foldl_nil];have f9:=zu HFO j;have z9:=hatz j x hx;have f1:=f9.see;have f2:=f9.sl;have f3:=f9.cl;have f4:=f9.lc;have f5:=f9.lc0;have f6:=f9.lp;rw[hs0] at f1;rw[hs2] at f3;rw[hs3] at f4 f5;rw[hs4] at f6;exact hw x (List.mem_of_getElem? hx) wr _ u k r (by omega) (by omega) (by omega) (by omega) (by omega) (by omega) (by omega)
 have HWK:=zh hwk;obtain⟨sa,ns,sc,ca,nc,cc,ea,ne,ec,h⟩:=h;have hne:=h.hne;have hrow:=h.row;rw[he] at hrow;obtain⟨c0,c1,c2,c3,c4,c5,c6,zf⟩:=ck_c hrow;obtain⟨d2,hd2⟩:∃ d2,d2=l.foldl (fun d x=>dW fs F x d) d0:=⟨_,rfl⟩;rw[← hd2];have HD2:Hd (∀ j,j=l.length→(l.take j).foldl (fun d x=>dW fs F x d) d0=d2):=fun j hj=>by rw[hj,List.take_length,hd2]
 have hpre:d.see.length≤d2.see.length:=by
  have h9:=(zu HPRE).length_le;rw[← hd2,hs0] at h9;exact h9
 have hall:=zu HFO l.length;rw[List.take_length,← hd2] at hall;have A1:=hall.see;have A2:=hall.sl;have A3:=hall.cl;have A4:=hall.lc;have A5:=hall.lc0;rw[hs0] at A1;rw[hs2] at A3;rw[hs3] at A4 A5;rw[hne] at hpre A1 hmk;have hmk2:=hmk.symm;clear hmk;subst hmk2;clear h hrow hl X0 hd2 hwk hw hlenz hatz hbg HFO HPRE hall he;generalize hM:l.length=m at *;have hwg:(w.heap.size == g)=false:=by simp;omega
 go_enter Tryz.func39,Tryz.ntmps39
 go_wp2_with (go_at_call 66;refine Calls.mono (zu HU) ?_;rintro e W1 ⟨rfl,hk,hcf⟩;have K1:=zh hk;have F1:=zh ((zu HX0).trans hcf);have RB:=zh (hcf.rowN (by show w.heap.size≠g;omega) (zu HB));have LR:=zh (hcf.repL (zu HL0));clear hk hcf)
 clear HK0 HX0 HB HL0 hd0 c0 c1 c2 c3 c4 c5 c6 zf
 go_loopw [5] (fun t wr => ∃ (j:Nat),t = .int .i64 j∧j≤m∧Hd (CF g W1 wr)∧Hd (CK g wr fv fs ((l.take j).foldl (fun d x=>dW fs F x d) d0))) (fun t _=>m - (intOf t).toNat)
 case atStart=>exact⟨0,rfl,Nat.zero_le _,CF.refl _ _,by rw[Hd,List.take_zero];exact zu K1⟩
 case round =>
  obtain⟨j,rfl,hj,hF,hK⟩:=hrel;have hRB:=(zu hF).rowN (by show w.heap.size≠g;omega) (zu RB);have b0:=zr hRB 0 rfl;have b1:=zr hRB 1 rfl;have b2:=zr hRB 2 rfl;have b3:=zr hRB 3 rfl;have b4:=zr hRB 4 rfl;clear hRB;by_cases hlt:j < m
  ·obtain⟨x,hx⟩:∃ x,l[j]? = some x:=⟨_,List.getElem?_eq_getElem (by omega)⟩
   obtain⟨b,off,x0,x1,x2,x3,x4,rfl,hbl,r,e0,e1,e2,e3,e4⟩:=repNL_at ((zu hF).repL (zu LR)) j x hx;have HX:=zh (zu HWK wr j x _ hx (zu hK) r);clear r hx hbl
   go_wp2_with (go_at_call 39;refine Calls.mono (zu HX) ?_;rintro e w2 ⟨rfl,hk,hcf⟩;have K2:=zh hk;have F2:=zh ((zu hF).trans hcf);clear hk hcf)
   go_roundw
   case rel=>exact⟨j+1,by go_num,by omega,F2,K2⟩
   case measure=>simp[intOf];omega
  ·have hK2:=zu hK
   rw[zu HD2 j (by omega)] at hK2;have HK2:=zh hK2;have HF2:=zh ((zu F1).trans (zu hF));have hlp:j=m:=by omega
   clear hK hF K1 F1 LR RB HWK hK2;have hE:dEnd fs 2 s m ne d2=d2:=by unfold dEnd;rw[if_neg (by decide),if_neg (by decide),if_neg (by decide)]
   have HEQ:=zh hE;clear hE
   go_wp2_with fail
   go_end0
   exact⟨rfl,by rw[zu HEQ];exact zu HK2,zu HF2⟩
theorem walk_use19 {F:Nat} {o n:Int} {s:ByteArray} {l:List PN} {v:Value} (hfl:fs.length≤100000) (hps:∀ p ∈ fs,p.ps.length≤100000) (hw:∀ x ∈ l,WkOf g fv fs F x) (h:CK g w fv fs d) (hr:RepN w (fun b=>b < g) ⟨19,o,s,n,l⟩ v) (he:d.e=0) (hb1:d.see.length+nszL l < 100000) (hb2:d.sl.length+nszL l < 100000) (hb3:d.cl.length+nszL l < 100000) (hb4:0≤d.lp) (hb5:d.lp+nszL l < 100000) (hb6:0≤d.lc) (hb7:d.lc+nszL l < 100000) (hll:l.length≤100000) :
  Calls Tryz.prog 39 #[.pointer (some ⟨g,0,none⟩),v] w (CAns g w fv fs (dEnd fs 19 s l.length d.see.length (l.foldl (fun d x=>dW fs F x d) (dBeg 19 s d)))):=by
 have hg:=h.lt;rw[RepN] at hr;obtain⟨a,cap,rfl,hcap,hl⟩:=hr;have hlenz:∀ j,nszL (l.take j)≤nszL l:=fun j=>by
  have h9:=nszL_append (l.take j) (l.drop j);rw[List.take_append_drop] at h9;omega
 have hatz:∀ (j:Nat) (x:PN),l[j]? = some x→nszL (l.take j)+nsz x≤nszL l:=fun j x hx=>by
  have hlt:=(List.getElem?_eq_some_iff.1 hx).1;have h9:=nszL_append (l.take j) (l.drop j);rw[List.take_append_drop,List.drop_eq_getElem_cons hlt,(List.getElem?_eq_some_iff.1 hx).2,nszL] at h9;omega
 have hbg:dBeg 19 s d=d.use s:=by unfold dBeg;rw[if_pos (by decide)]
 rw[hbg];obtain⟨mk,hmk⟩:∃ mk,mk=d.see.length:=⟨_,rfl⟩;rw[← hmk];have X0:Ext w (w.alloc (nodO 19 o s n (.slice a l.length cap))):=Ext.alloc _ _;have HB:=zh (Go.heap_alloc_new w (nodO 19 o s n (.slice a l.length cap)));have HL0:=zh ((CF.of hg X0).repL hl);have HK0:=zh (h.ext X0);have HX0:=zh (CF.of hg X0);have HU:=zh (use_c (h.ext X0) he (by omega) (by omega) s);obtain⟨u1,u2,u3,u4,u5⟩:=use_le d s;obtain⟨d0,hd0⟩:∃ d0,d0=(d.use s):=⟨_,rfl⟩;rw[← hd0] at HU u1 u2 u3 u4 u5 ⊢;have hs0:d0.see=d.see:=u3;have hs1:d0.sl.length≤d.sl.length+1:=u1;have hs2:d0.cl=d.cl:=u2;have hs3:d0.lc=d.lc:=u4;have hs4:d0.lp=d.lp:=u5;have HFO:=zh (fun (j:Nat)=>fold_le fs F (fun q e=>dW_le fs F q e) (l.take j) d0);have HPRE:=zh (fold_pre fs F (fun q e=>dW_pre fs F q e) l d0)
 have hwk:∀ (wr:World) (j:Nat) (x:PN) (u:Value),l[j]? = some x→CK g wr fv fs ((l.take j).foldl (fun d x=>dW fs F x d) d0)→RepN wr (fun b=>b < g) x u→Calls Tryz.prog 39 #[.pointer (some ⟨g,0,none⟩),u] wr (CAns g wr fv fs ((l.take (j+1)).foldl (fun d x=>dW fs F x d) d0)):=fun wr j x u hx k r=>by
  have hlt:=(List.getElem?_eq_some_iff.1 hx).1;have e9:l.take (j+1)=l.take j++[x]:=by rw[List.take_succ_eq_append_getElem hlt,(List.getElem?_eq_some_iff.1 hx).2]
  rw[e9,List.foldl_append,List.foldl_cons,List.foldl_nil];have f9:=zu HFO j;have z9:=hatz j x hx;have f1:=f9.see;have f2:=f9.sl;have f3:=f9.cl;have f4:=f9.lc;have f5:=f9.lc0;have f6:=f9.lp;rw[hs0] at f1;rw[hs2] at f3;rw[hs3] at f4 f5;rw[hs4] at f6;exact hw x (List.mem_of_getElem? hx) wr _ u k r (by omega) (by omega) (by omega) (by omega) (by omega) (by omega) (by omega)
 have HWK:=zh hwk;obtain⟨sa,ns,sc,ca,nc,cc,ea,ne,ec,h⟩:=h;have hne:=h.hne;have hrow:=h.row;rw[he] at hrow;obtain⟨c0,c1,c2,c3,c4,c5,c6,zf⟩:=ck_c hrow;obtain⟨d2,hd2⟩:∃ d2,d2=l.foldl (fun d x=>dW fs F x d) d0:=⟨_,rfl⟩;rw[← hd2];have HD2:Hd (∀ j,j=l.length→(l.take j).foldl (fun d x=>dW fs F x d) d0=d2):=fun j hj=>by rw[hj,List.take_length,hd2]
 have hpre:d.see.length≤d2.see.length:=by
  have h9:=(zu HPRE).length_le;rw[← hd2,hs0] at h9;exact h9
 have hall:=zu HFO l.length;rw[List.take_length,← hd2] at hall;have A1:=hall.see;have A2:=hall.sl;have A3:=hall.cl;have A4:=hall.lc;have A5:=hall.lc0;rw[hs0] at A1;rw[hs2] at A3;rw[hs3] at A4 A5;rw[hne] at hpre A1 hmk;have hmk2:=hmk.symm;clear hmk;subst hmk2;clear h hrow hl X0 hd2 hwk hw hlenz hatz hbg HFO HPRE hall he;generalize hM:l.length=m at *;have hwg:(w.heap.size == g)=false:=by simp;omega
 go_enter Tryz.func39,Tryz.ntmps39
 go_wp2_with (go_at_call 66;refine Calls.mono (zu HU) ?_;rintro e W1 ⟨rfl,hk,hcf⟩;have K1:=zh hk;have F1:=zh ((zu HX0).trans hcf);have RB:=zh (hcf.rowN (by show w.heap.size≠g;omega) (zu HB));have LR:=zh (hcf.repL (zu HL0));clear hk hcf)
 clear HK0 HX0 HB HL0 hd0 c0 c1 c2 c3 c4 c5 c6 zf
 go_loopw [5] (fun t wr => ∃ (j:Nat),t = .int .i64 j∧j≤m∧Hd (CF g W1 wr)∧Hd (CK g wr fv fs ((l.take j).foldl (fun d x=>dW fs F x d) d0))) (fun t _=>m - (intOf t).toNat)
 case atStart=>exact⟨0,rfl,Nat.zero_le _,CF.refl _ _,by rw[Hd,List.take_zero];exact zu K1⟩
 case round =>
  obtain⟨j,rfl,hj,hF,hK⟩:=hrel;have hRB:=(zu hF).rowN (by show w.heap.size≠g;omega) (zu RB);have b0:=zr hRB 0 rfl;have b1:=zr hRB 1 rfl;have b2:=zr hRB 2 rfl;have b3:=zr hRB 3 rfl;have b4:=zr hRB 4 rfl;clear hRB;by_cases hlt:j < m
  ·obtain⟨x,hx⟩:∃ x,l[j]? = some x:=⟨_,List.getElem?_eq_getElem (by omega)⟩
   obtain⟨b,off,x0,x1,x2,x3,x4,rfl,hbl,r,e0,e1,e2,e3,e4⟩:=repNL_at ((zu hF).repL (zu LR)) j x hx;have HX:=zh (zu HWK wr j x _ hx (zu hK) r);clear r hx hbl
   go_wp2_with (go_at_call 39;refine Calls.mono (zu HX) ?_;rintro e w2 ⟨rfl,hk,hcf⟩;have K2:=zh hk;have F2:=zh ((zu hF).trans hcf);clear hk hcf)
   go_roundw
   case rel=>exact⟨j+1,by go_num,by omega,F2,K2⟩
   case measure=>simp[intOf];omega
  ·have hK2:=zu hK
   rw[zu HD2 j (by omega)] at hK2;have HK2:=zh hK2;have HF2:=zh ((zu F1).trans (zu hF));have hlp:j=m:=by omega
   clear hK hF K1 F1 LR RB HWK hK2;have hE:dEnd fs 19 s m ne d2=d2:=by unfold dEnd;rw[if_neg (by decide),if_neg (by decide),if_neg (by decide)]
   have HEQ:=zh hE;clear hE
   go_wp2_with fail
   go_end0
   exact⟨rfl,by rw[zu HEQ];exact zu HK2,zu HF2⟩
theorem walk_other {F:Nat} {k o n:Int} {s:ByteArray} {l:List PN} {v:Value} (hk1:¬ k=1) (hk2:¬ (k=2∨k=19)) (hk4:¬ k=4) (hk5:¬ (k=5∨k=6)) (hk10:¬ k=10) (hk20:¬ k=20) (hfl:fs.length≤100000) (hps:∀ p ∈ fs,p.ps.length≤100000) (hw:∀ x ∈ l,WkOf g fv fs F x) (h:CK g w fv fs d) (hr:RepN w (fun b=>b < g) ⟨k,o,s,n,l⟩ v) (he:d.e=0) (hb1:d.see.length+nszL l < 100000) (hb2:d.sl.length+nszL l < 100000) (hb3:d.cl.length+nszL l < 100000) (hb4:0≤d.lp) (hb5:d.lp+nszL l < 100000) (hb6:0≤d.lc) (hb7:d.lc+nszL l < 100000) (hll:l.length≤100000) :
  Calls Tryz.prog 39 #[.pointer (some ⟨g,0,none⟩),v] w (CAns g w fv fs (dEnd fs k s l.length d.see.length (l.foldl (fun d x=>dW fs F x d) (dBeg k s d)))):=by
 have hg:=h.lt;have kf1:(k == 1)=false:=by simpa using hk1
 have kf2:(k == 2)=false:=by simp;intro e;exact hk2 (Or.inl e)
 have kf19:(k == 19)=false:=by simp;intro e;exact hk2 (Or.inr e)
 have kf4:(k == 4)=false:=by simpa using hk4
 have kf5:(k == 5)=false:=by simp;intro e;exact hk5 (Or.inl e)
 have kf6:(k == 6)=false:=by simp;intro e;exact hk5 (Or.inr e)
 have kf10:(k == 10)=false:=by simpa using hk10
 have kf20:(k == 20)=false:=by simpa using hk20
 rw[RepN] at hr;obtain⟨a,cap,rfl,hcap,hl⟩:=hr;have hlenz:∀ j,nszL (l.take j)≤nszL l:=fun j=>by
  have h9:=nszL_append (l.take j) (l.drop j);rw[List.take_append_drop] at h9;omega
 have hatz:∀ (j:Nat) (x:PN),l[j]? = some x→nszL (l.take j)+nsz x≤nszL l:=fun j x hx=>by
  have hlt:=(List.getElem?_eq_some_iff.1 hx).1;have h9:=nszL_append (l.take j) (l.drop j);rw[List.take_append_drop,List.drop_eq_getElem_cons hlt,(List.getElem?_eq_some_iff.1 hx).2,nszL] at h9;omega
 have hbg:dBeg k s d=d:=by unfold dBeg;rw[if_neg (by exact hk2)]
 rw[hbg];obtain⟨mk,hmk⟩:∃ mk,mk=d.see.length:=⟨_,rfl⟩;rw[← hmk];have X0:Ext w (w.alloc (nodO k o s n (.slice a l.length cap))):=Ext.alloc _ _;have HB:=zh (Go.heap_alloc_new w (nodO k o s n (.slice a l.length cap)));have HL0:=zh ((CF.of hg X0).repL hl);have HK0:=zh (h.ext X0);have HX0:=zh (CF.of hg X0);obtain⟨d0,hd0⟩:∃ d0,d0=d:=⟨_,rfl⟩;rw[← hd0];have hs0:d0.see=d.see:=by rw[hd0]
 have hs1:d0.sl.length≤d.sl.length+1:=by rw[hd0];omega
 have hs2:d0.cl=d.cl:=by rw[hd0]
 have hs3:d0.lc=d.lc:=by rw[hd0]
 have hs4:d0.lp=d.lp:=by rw[hd0]
 have HFO:=zh (fun (j:Nat)=>fold_le fs F (fun q e=>dW_le fs F q e) (l.take j) d0);have HPRE:=zh (fold_pre fs F (fun q e=>dW_pre fs F q e) l d0);have hwk:∀ (wr:World) (j:Nat) (x:PN) (u:Value),l[j]? = some x→CK g wr fv fs ((l.take j).foldl (fun d x=>dW fs F x d) d0)→RepN wr (fun b=>b < g) x u→Calls Tryz.prog 39 #[.pointer (some ⟨g,0,none⟩),u] wr (CAns g wr fv fs ((l.take (j+1)).foldl (fun d x=>dW fs F x d) d0)):=fun wr j x u hx k r=>by
  have hlt:=(List.getElem?_eq_some_iff.1 hx).1;have e9:l.take (j+1)=l.take j++[x]:=by rw[List.take_succ_eq_append_getElem hlt,(List.getElem?_eq_some_iff.1 hx).2]
  rw[e9,List.foldl_append,List.foldl_cons,List.foldl_nil];have f9:=zu HFO j;have z9:=hatz j x hx;have f1:=f9.see;have f2:=f9.sl;have f3:=f9.cl;have f4:=f9.lc;have f5:=f9.lc0;have f6:=f9.lp;rw[hs0] at f1;rw[hs2] at f3;rw[hs3] at f4 f5;rw[hs4] at f6;exact hw x (List.mem_of_getElem? hx) wr _ u k r (by omega) (by omega) (by omega) (by omega) (by omega) (by omega) (by omega)
 have HWK:=zh hwk;obtain⟨sa,ns,sc,ca,nc,cc,ea,ne,ec,h⟩:=h;have hne:=h.hne;have hrow:=h.row;rw[he] at hrow;obtain⟨c0,c1,c2,c3,c4,c5,c6,zf⟩:=ck_c hrow;obtain⟨d2,hd2⟩:∃ d2,d2=l.foldl (fun d x=>dW fs F x d) d0:=⟨_,rfl⟩;rw[← hd2];have HD2:Hd (∀ j,j=l.length→(l.take j).foldl (fun d x=>dW fs F x d) d0=d2):=fun j hj=>by rw[hj,List.take_length,hd2]
 have hpre:d.see.length≤d2.see.length:=by
  have h9:=(zu HPRE).length_le;rw[← hd2,hs0] at h9;exact h9
 have hall:=zu HFO l.length;rw[List.take_length,← hd2] at hall;have A1:=hall.see;have A2:=hall.sl;have A3:=hall.cl;have A4:=hall.lc;have A5:=hall.lc0;rw[hs0] at A1;rw[hs2] at A3;rw[hs3] at A4 A5;rw[hne] at hpre A1 hmk;have hmk2:=hmk.symm;clear hmk;subst hmk2;clear h hrow hl X0 hd2 hwk hw hlenz hatz hbg HFO HPRE hall he;generalize hM:l.length=m at *;have hwg:(w.heap.size == g)=false:=by simp;omega
 go_enter Tryz.func39,Tryz.ntmps39
 go_wp2_with fail
 obtain⟨W1,hW1⟩:∃ W1,W1=w.alloc (nodO k o s n (.slice a m cap)):=⟨_,rfl⟩;have K1:Hd (CK g W1 fv fs d0):=by rw[Hd,hW1,hd0];exact zu HK0
 have F1:Hd (CF g w W1):=by rw[Hd,hW1];exact zu HX0
 have RB:Hd (W1.heap[w.heap.size]? = some (nodO k o s n (.slice a m cap))):=by rw[Hd,hW1];exact zu HB
 have LR:Hd (RepNL W1 (fun b=>b < g) l a):=by rw[Hd,hW1];exact zu HL0
 rw[← hW1];clear hW1;clear HK0 HX0 HB HL0 hd0 c0 c1 c2 c3 c4 c5 c6 zf
 go_loopw [5] (fun t wr => ∃ (j:Nat),t = .int .i64 j∧j≤m∧Hd (CF g W1 wr)∧Hd (CK g wr fv fs ((l.take j).foldl (fun d x=>dW fs F x d) d0))) (fun t _=>m - (intOf t).toNat)
 case atStart=>exact⟨0,rfl,Nat.zero_le _,CF.refl _ _,by rw[Hd,List.take_zero];exact zu K1⟩
 case round =>
  obtain⟨j,rfl,hj,hF,hK⟩:=hrel;have hRB:=(zu hF).rowN (by show w.heap.size≠g;omega) (zu RB);have b0:=zr hRB 0 rfl;have b1:=zr hRB 1 rfl;have b2:=zr hRB 2 rfl;have b3:=zr hRB 3 rfl;have b4:=zr hRB 4 rfl;clear hRB;by_cases hlt:j < m
  ·obtain⟨x,hx⟩:∃ x,l[j]? = some x:=⟨_,List.getElem?_eq_getElem (by omega)⟩
   obtain⟨b,off,x0,x1,x2,x3,x4,rfl,hbl,r,e0,e1,e2,e3,e4⟩:=repNL_at ((zu hF).repL (zu LR)) j x hx;have HX:=zh (zu HWK wr j x _ hx (zu hK) r);clear r hx hbl
   go_wp2_with (go_at_call 39;refine Calls.mono (zu HX) ?_;rintro e w2 ⟨rfl,hk,hcf⟩;have K2:=zh hk;have F2:=zh ((zu hF).trans hcf);clear hk hcf)
   go_roundw
   case rel=>exact⟨j+1,by go_num,by omega,F2,K2⟩
   case measure=>simp[intOf];omega
  ·have hK2:=zu hK
   rw[zu HD2 j (by omega)] at hK2;have HK2:=zh hK2;have HF2:=zh ((zu F1).trans (zu hF));have hlp:j=m:=by omega
   clear hK hF K1 F1 LR RB HWK hK2;have hE:dEnd fs k s m ne d2=d2:=by unfold dEnd;rw[if_neg (by exact hk1),if_neg (by exact hk10),if_neg (by exact hk20)]
   have HEQ:=zh hE;clear hE
   go_wp2_with fail
   go_end0
   exact⟨rfl,by rw[zu HEQ];exact zu HK2,zu HF2⟩
end
section
open Go.RowKit Go.Maps
variable {g:Nat} {w w' w2:World} {fv:Value} {fs:List PFn} {d:DK}
theorem walk_block {F:Nat} {o n:Int} {s:ByteArray} {l:List PN} {v:Value} (hfl:fs.length≤100000) (hps:∀ p ∈ fs,p.ps.length≤100000) (hw:∀ x ∈ l,WkOf g fv fs F x) (h:CK g w fv fs d) (hr:RepN w (fun b=>b < g) ⟨10,o,s,n,l⟩ v) (he:d.e=0) (hb1:d.see.length+nszL l < 100000) (hb2:d.sl.length+nszL l < 100000) (hb3:d.cl.length+nszL l < 100000) (hb4:0≤d.lp) (hb5:d.lp+nszL l < 100000) (hb6:0≤d.lc) (hb7:d.lc+nszL l < 100000) (hll:l.length≤100000) :
  Calls Tryz.prog 39 #[.pointer (some ⟨g,0,none⟩),v] w (CAns g w fv fs (dEnd fs 10 s l.length d.see.length (l.foldl (fun d x=>dW fs F x d) (dBeg 10 s d)))):=by
 have hg:=h.lt;rw[RepN] at hr;obtain⟨a,cap,rfl,hcap,hl⟩:=hr;have hlenz:∀ j,nszL (l.take j)≤nszL l:=fun j=>by
  have h9:=nszL_append (l.take j) (l.drop j);rw[List.take_append_drop] at h9;omega
 have hatz:∀ (j:Nat) (x:PN),l[j]? = some x→nszL (l.take j)+nsz x≤nszL l:=fun j x hx=>by
  have hlt:=(List.getElem?_eq_some_iff.1 hx).1;have h9:=nszL_append (l.take j) (l.drop j);rw[List.take_append_drop,List.drop_eq_getElem_cons hlt,(List.getElem?_eq_some_iff.1 hx).2,nszL] at h9;omega
 have hbg:dBeg 10 s d=d:=by unfold dBeg;rw[if_neg (by decide)]
 rw[hbg];obtain⟨mk,hmk⟩:∃ mk,mk=d.see.length:=⟨_,rfl⟩;rw[← hmk];have X0:Ext w (w.alloc (nodO 10 o s n (.slice a l.length cap))):=Ext.alloc _ _;have HB:=zh (Go.heap_alloc_new w (nodO 10 o s n (.slice a l.length cap)));have HL0:=zh ((CF.of hg X0).repL hl);have HK0:=zh (h.ext X0);have HX0:=zh (CF.of hg X0);obtain⟨d0,hd0⟩:∃ d0,d0=d:=⟨_,rfl⟩;rw[← hd0];have hs0:d0.see=d.see:=by rw[hd0]
 have hs1:d0.sl.length≤d.sl.length+1:=by rw[hd0];omega
 have hs2:d0.cl=d.cl:=by rw[hd0]
 have hs3:d0.lc=d.lc:=by rw[hd0]
 have hs4:d0.lp=d.lp:=by rw[hd0]
 have HFO:=zh (fun (j:Nat)=>fold_le fs F (fun q e=>dW_le fs F q e) (l.take j) d0);have HPRE:=zh (fold_pre fs F (fun q e=>dW_pre fs F q e) l d0);have hwk:∀ (wr:World) (j:Nat) (x:PN) (u:Value),l[j]? = some x→CK g wr fv fs ((l.take j).foldl (fun d x=>dW fs F x d) d0)→RepN wr (fun b=>b < g) x u→Calls Tryz.prog 39 #[.pointer (some ⟨g,0,none⟩),u] wr (CAns g wr fv fs ((l.take (j+1)).foldl (fun d x=>dW fs F x d) d0)):=fun wr j x u hx k r=>by
  have hlt:=(List.getElem?_eq_some_iff.1 hx).1;have e9:l.take (j+1)=l.take j++[x]:=by rw[List.take_succ_eq_append_getElem hlt,(List.getElem?_eq_some_iff.1 hx).2]
  rw[e9,List.foldl_append,List.foldl_cons,List.foldl_nil];have f9:=zu HFO j;have z9:=hatz j x hx;have f1:=f9.see;have f2:=f9.sl;have f3:=f9.cl;have f4:=f9.lc;have f5:=f9.lc0;have f6:=f9.lp;rw[hs0] at f1;rw[hs2] at f3;rw[hs3] at f4 f5;rw[hs4] at f6;exact hw x (List.mem_of_getElem? hx) wr _ u k r (by omega) (by omega) (by omega) (by omega) (by omega) (by omega) (by omega)
 have HWK:=zh hwk;obtain⟨sa,ns,sc,ca,nc,cc,ea,ne,ec,h⟩:=h;have hne:=h.hne;have hrow:=h.row;rw[he] at hrow;obtain⟨c0,c1,c2,c3,c4,c5,c6,zf⟩:=ck_c hrow;obtain⟨d2,hd2⟩:∃ d2,d2=l.foldl (fun d x=>dW fs F x d) d0:=⟨_,rfl⟩;rw[← hd2];have HD2:Hd (∀ j,j=l.length→(l.take j).foldl (fun d x=>dW fs F x d) d0=d2):=fun j hj=>by rw[hj,List.take_length,hd2]
 have hpre:d.see.length≤d2.see.length:=by
  have h9:=(zu HPRE).length_le;rw[← hd2,hs0] at h9;exact h9
 have hall:=zu HFO l.length;rw[List.take_length,← hd2] at hall;have A1:=hall.see;have A2:=hall.sl;have A3:=hall.cl;have A4:=hall.lc;have A5:=hall.lc0;rw[hs0] at A1;rw[hs2] at A3;rw[hs3] at A4 A5;rw[hne] at hpre A1 hmk;have hmk2:=hmk.symm;clear hmk;subst hmk2;clear h hrow hl X0 hd2 hwk hw hlenz hatz hbg HFO HPRE hall he;generalize hM:l.length=m at *;have hwg:(w.heap.size == g)=false:=by simp;omega
 go_enter Tryz.func39,Tryz.ntmps39
 go_wp2_with fail
 obtain⟨W1,hW1⟩:∃ W1,W1=w.alloc (nodO 10 o s n (.slice a m cap)):=⟨_,rfl⟩;have K1:Hd (CK g W1 fv fs d0):=by rw[Hd,hW1,hd0];exact zu HK0
 have F1:Hd (CF g w W1):=by rw[Hd,hW1];exact zu HX0
 have RB:Hd (W1.heap[w.heap.size]? = some (nodO 10 o s n (.slice a m cap))):=by rw[Hd,hW1];exact zu HB
 have LR:Hd (RepNL W1 (fun b=>b < g) l a):=by rw[Hd,hW1];exact zu HL0
 rw[← hW1];clear hW1;clear HK0 HX0 HB HL0 hd0 c0 c1 c2 c3 c4 c5 c6 zf
 go_loopw [5] (fun t wr => ∃ (j:Nat),t = .int .i64 j∧j≤m∧Hd (CF g W1 wr)∧Hd (CK g wr fv fs ((l.take j).foldl (fun d x=>dW fs F x d) d0))) (fun t _=>m - (intOf t).toNat)
 case atStart=>exact⟨0,rfl,Nat.zero_le _,CF.refl _ _,by rw[Hd,List.take_zero];exact zu K1⟩
 case round =>
  obtain⟨j,rfl,hj,hF,hK⟩:=hrel;have hRB:=(zu hF).rowN (by show w.heap.size≠g;omega) (zu RB);have b0:=zr hRB 0 rfl;have b1:=zr hRB 1 rfl;have b2:=zr hRB 2 rfl;have b3:=zr hRB 3 rfl;have b4:=zr hRB 4 rfl;clear hRB;by_cases hlt:j < m
  ·obtain⟨x,hx⟩:∃ x,l[j]? = some x:=⟨_,List.getElem?_eq_getElem (by omega)⟩
   obtain⟨b,off,x0,x1,x2,x3,x4,rfl,hbl,r,e0,e1,e2,e3,e4⟩:=repNL_at ((zu hF).repL (zu LR)) j x hx;have HX:=zh (zu HWK wr j x _ hx (zu hK) r);clear r hx hbl
   go_wp2_with (go_at_call 39;refine Calls.mono (zu HX) ?_;rintro e w2 ⟨rfl,hk,hcf⟩;have K2:=zh hk;have F2:=zh ((zu hF).trans hcf);clear hk hcf)
   go_roundw
   case rel=>exact⟨j+1,by go_num,by omega,F2,K2⟩
   case measure=>simp[intOf];omega
  ·have hK2:=zu hK
   rw[zu HD2 j (by omega)] at hK2;have HK2:=zh hK2;have HF2:=zh ((zu F1).trans (zu hF));have hlp:j=m:=by omega
   clear hK hF K1 F1 LR RB HWK hK2;have hE:dEnd fs 10 s m ne d2 = { d2 with see:=d2.see.take ne }:=by unfold dEnd;rw[if_neg (by decide),if_pos rfl]
   have HEQ:=zh hE;obtain⟨sa2,ns2,sc2,ca2,nc2,cc2,ea2,ne2,ec2,hS⟩:=zu HK2;have hne2:=hS.hne;have hcut:=hS.cut ne (by omega);have HC:=zh hcut;obtain⟨c0,c1,c2,c3,c4,c5,c6,zf⟩:=ck_c hS.row;have hnn:ne≤ne2:=by omega
   have hn9:ne2≤100000:=by omega
   clear hE;rcases hS.ose.2 with⟨q1,q2⟩ | ⟨bb,cap2,cur,q1,q2,q3,q4,q5,q6,q7⟩
   ·injection q1 with q1 q8 q9
    subst q1 q9;obtain rfl:ne2=0:=q2;obtain rfl:ne=0:=by omega
    clear hS hcut
    go_wp2_with fail
    go_end0
    exact⟨rfl,by rw[zu HEQ];exact⟨_,_,_,_,_,_,_,_,_,zu HC⟩,(zu HF2).set 4 _⟩
   ·injection q1 with q1 q8 q9
    subst q1 q9;have hec2:ne≤ec2:=by omega
    have hec3:ec2≤9223372036854775807:=by unfold maxLen at q5;omega
    clear hS hcut q2 q3 q4 q5 q6 q7 q8
    go_wp2_with fail
    go_end0
    exact⟨rfl,by rw[zu HEQ];exact⟨_,_,_,_,_,_,_,_,_,zu HC⟩,(zu HF2).set 4 _⟩
theorem walk_call {F:Nat} {o n:Int} {s:ByteArray} {l:List PN} {v:Value} (hfl:fs.length≤100000) (hps:∀ p ∈ fs,p.ps.length≤100000) (hw:∀ x ∈ l,WkOf g fv fs F x) (h:CK g w fv fs d) (hr:RepN w (fun b=>b < g) ⟨20,o,s,n,l⟩ v) (he:d.e=0) (hb1:d.see.length+nszL l < 100000) (hb2:d.sl.length+nszL l < 100000) (hb3:d.cl.length+nszL l < 100000) (hb4:0≤d.lp) (hb5:d.lp+nszL l < 100000) (hb6:0≤d.lc) (hb7:d.lc+nszL l < 100000) (hll:l.length≤100000) :
  Calls Tryz.prog 39 #[.pointer (some ⟨g,0,none⟩),v] w (CAns g w fv fs (dEnd fs 20 s l.length d.see.length (l.foldl (fun d x=>dW fs F x d) (dBeg 20 s d)))):=by
 have hg:=h.lt;rw[RepN] at hr;obtain⟨a,cap,rfl,hcap,hl⟩:=hr;have hlenz:∀ j,nszL (l.take j)≤nszL l:=fun j=>by
  have h9:=nszL_append (l.take j) (l.drop j);rw[List.take_append_drop] at h9;omega
 have hatz:∀ (j:Nat) (x:PN),l[j]? = some x→nszL (l.take j)+nsz x≤nszL l:=fun j x hx=>by
  have hlt:=(List.getElem?_eq_some_iff.1 hx).1;have h9:=nszL_append (l.take j) (l.drop j);rw[List.take_append_drop,List.drop_eq_getElem_cons hlt,(List.getElem?_eq_some_iff.1 hx).2,nszL] at h9;omega
 have hbg:dBeg 20 s d=d:=by unfold dBeg;rw[if_neg (by decide)]
 rw[hbg];obtain⟨mk,hmk⟩:∃ mk,mk=d.see.length:=⟨_,rfl⟩;rw[← hmk];have X0:Ext w (w.alloc (nodO 20 o s n (.slice a l.length cap))):=Ext.alloc _ _;have HB:=zh (Go.heap_alloc_new w (nodO 20 o s n (.slice a l.length cap)));have HL0:=zh ((CF.of hg X0).repL hl);have HK0:=zh (h.ext X0);have HX0:=zh (CF.of hg X0);obtain⟨d0,hd0⟩:∃ d0,d0=d:=⟨_,rfl⟩;rw[← hd0];have hs0:d0.see=d.see:=by rw[hd0]
 have hs1:d0.sl.length≤d.sl.length+1:=by rw[hd0];omega
 have hs2:d0.cl=d.cl:=by rw[hd0]
 have hs3:d0.lc=d.lc:=by rw[hd0]
 have hs4:d0.lp=d.lp:=by rw[hd0]
 have HFO:=zh (fun (j:Nat)=>fold_le fs F (fun q e=>dW_le fs F q e) (l.take j) d0);have HPRE:=zh (fold_pre fs F (fun q e=>dW_pre fs F q e) l d0);have hwk:∀ (wr:World) (j:Nat) (x:PN) (u:Value),l[j]? = some x→CK g wr fv fs ((l.take j).foldl (fun d x=>dW fs F x d) d0)→RepN wr (fun b=>b < g) x u→Calls Tryz.prog 39 #[.pointer (some ⟨g,0,none⟩),u] wr (CAns g wr fv fs ((l.take (j+1)).foldl (fun d x=>dW fs F x d) d0)):=fun wr j x u hx k r=>by
  have hlt:=(List.getElem?_eq_some_iff.1 hx).1;have e9:l.take (j+1)=l.take j++[x]:=by rw[List.take_succ_eq_append_getElem hlt,(List.getElem?_eq_some_iff.1 hx).2]
  rw[e9,List.foldl_append,List.foldl_cons,List.foldl_nil];have f9:=zu HFO j;have z9:=hatz j x hx;have f1:=f9.see;have f2:=f9.sl;have f3:=f9.cl;have f4:=f9.lc;have f5:=f9.lc0;have f6:=f9.lp;rw[hs0] at f1;rw[hs2] at f3;rw[hs3] at f4 f5;rw[hs4] at f6;exact hw x (List.mem_of_getElem? hx) wr _ u k r (by omega) (by omega) (by omega) (by omega) (by omega) (by omega) (by omega)
 have HWK:=zh hwk;obtain⟨sa,ns,sc,ca,nc,cc,ea,ne,ec,h⟩:=h;have hne:=h.hne;have hrow:=h.row;rw[he] at hrow;obtain⟨c0,c1,c2,c3,c4,c5,c6,zf⟩:=ck_c hrow;obtain⟨d2,hd2⟩:∃ d2,d2=l.foldl (fun d x=>dW fs F x d) d0:=⟨_,rfl⟩;rw[← hd2];have HD2:Hd (∀ j,j=l.length→(l.take j).foldl (fun d x=>dW fs F x d) d0=d2):=fun j hj=>by rw[hj,List.take_length,hd2]
 have hpre:d.see.length≤d2.see.length:=by
  have h9:=(zu HPRE).length_le;rw[← hd2,hs0] at h9;exact h9
 have hall:=zu HFO l.length;rw[List.take_length,← hd2] at hall;have A1:=hall.see;have A2:=hall.sl;have A3:=hall.cl;have A4:=hall.lc;have A5:=hall.lc0;rw[hs0] at A1;rw[hs2] at A3;rw[hs3] at A4 A5;rw[hne] at hpre A1 hmk;have hmk2:=hmk.symm;clear hmk;subst hmk2;clear h hrow hl X0 hd2 hwk hw hlenz hatz hbg HFO HPRE hall he;generalize hM:l.length=m at *;have hwg:(w.heap.size == g)=false:=by simp;omega
 go_enter Tryz.func39,Tryz.ntmps39
 go_wp2_with fail
 obtain⟨W1,hW1⟩:∃ W1,W1=w.alloc (nodO 20 o s n (.slice a m cap)):=⟨_,rfl⟩;have K1:Hd (CK g W1 fv fs d0):=by rw[Hd,hW1,hd0];exact zu HK0
 have F1:Hd (CF g w W1):=by rw[Hd,hW1];exact zu HX0
 have RB:Hd (W1.heap[w.heap.size]? = some (nodO 20 o s n (.slice a m cap))):=by rw[Hd,hW1];exact zu HB
 have LR:Hd (RepNL W1 (fun b=>b < g) l a):=by rw[Hd,hW1];exact zu HL0
 rw[← hW1];clear hW1;clear HK0 HX0 HB HL0 hd0 c0 c1 c2 c3 c4 c5 c6 zf
 go_loopw [5] (fun t wr => ∃ (j:Nat),t = .int .i64 j∧j≤m∧Hd (CF g W1 wr)∧Hd (CK g wr fv fs ((l.take j).foldl (fun d x=>dW fs F x d) d0))) (fun t _=>m - (intOf t).toNat)
 case atStart=>exact⟨0,rfl,Nat.zero_le _,CF.refl _ _,by rw[Hd,List.take_zero];exact zu K1⟩
 case round =>
  obtain⟨j,rfl,hj,hF,hK⟩:=hrel;have hRB:=(zu hF).rowN (by show w.heap.size≠g;omega) (zu RB);have b0:=zr hRB 0 rfl;have b1:=zr hRB 1 rfl;have b2:=zr hRB 2 rfl;have b3:=zr hRB 3 rfl;have b4:=zr hRB 4 rfl;clear hRB;by_cases hlt:j < m
  ·obtain⟨x,hx⟩:∃ x,l[j]? = some x:=⟨_,List.getElem?_eq_getElem (by omega)⟩
   obtain⟨b,off,x0,x1,x2,x3,x4,rfl,hbl,r,e0,e1,e2,e3,e4⟩:=repNL_at ((zu hF).repL (zu LR)) j x hx;have HX:=zh (zu HWK wr j x _ hx (zu hK) r);clear r hx hbl
   go_wp2_with (go_at_call 39;refine Calls.mono (zu HX) ?_;rintro e w2 ⟨rfl,hk,hcf⟩;have K2:=zh hk;have F2:=zh ((zu hF).trans hcf);clear hk hcf)
   go_roundw
   case rel=>exact⟨j+1,by go_num,by omega,F2,K2⟩
   case measure=>simp[intOf];omega
  ·have hK2:=zu hK
   rw[zu HD2 j (by omega)] at hK2;have HK2:=zh hK2;have HF2:=zh ((zu F1).trans (zu hF));have hlp:j=m:=by omega
   clear hK hF K1 F1 LR RB HWK hK2;have hE:dEnd fs 20 s m ne d2=d2.callD fs s m:=by unfold dEnd;rw[if_neg (by decide),if_neg (by decide),if_pos rfl]
   have HEQ:=zh hE;have HCL:=zh (call_c (zu HK2) (by omega) hfl 20 o n s a m cap (by omega) hps);clear hE
   go_wp2_with (go_at_call 67;refine Calls.mono (zu HCL) ?_;rintro e w3 ⟨rfl,hk,hcf⟩;have K3:=zh hk;have F3:=zh ((zu HF2).trans hcf);clear hk hcf)
   go_end0
   exact⟨rfl,by rw[zu HEQ];exact zu K3,zu F3⟩
end
end Go.Proofs.YtjnpehohialmbaaGreat
