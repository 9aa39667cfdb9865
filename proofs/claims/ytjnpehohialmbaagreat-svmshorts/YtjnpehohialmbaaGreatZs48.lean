/- Made: a program's stack code by the document,where all goes well. -/
import Derived.Test.YtjnpehohialmbaaGreatZs47
import Derived.Test.YtjnpehohialmbaaGreatZs21
set_option linter.unusedSimpArgs false
set_option linter.unusedVariables false
set_option maxRecDepth 10000
set_option maxHeartbeats 1000000
namespace Go.Proofs.YtjnpehohialmbaaGreat
open Go.RowKit
section
variable {w w' w2:World}
theorem made_of (s:ByteArray) (F f K:Nat) (fs:List PFn) (sc:List PSc) (fns:List V.KF) (hmax:s.size≤9223372036854775807) (hF:(begP s).ts.length < F) (hF2:F≤90000) (hrd:(rdP s F).1=fs) (hre:(rdP s F).2.e=0) (htoo:tooP fs=false) (hfm:(∀ p ∈ fs,gX p.bd∧p.ps.length≤1000∧nsz p.bd≤5000)∧fs.length≤16) (hK:K≤1000000) (hd:docP fs=(sc,0)) (hr:rFns f fs sc 0 []=some fns) (hv:∀ (z:Nat) (q:V.KF),fns[z]? = some q→V.HdOk q∧∃ hs:List Int,hs.length=q.code.length∧V.kHgt fns (z:Int) K=some (hs,0)) (hB:V.KfB fns) :
  Calls Tryz.prog 5 #[.string s] w fun e' w' => ∃ pa pc,e' = .returned (.tuple #[V.kpV pa fns.length pc (rMain fs 0 0),.bool true])∧V.RepP w' (V.In w') pa fns∧Ext w w':=by
 have HT:=zh (fun W=>rprog_any s F W hmax hF hF2);have HP:=zh (fun (W:World) (fa:Option Addr) (fc:Nat) (h1:RepFL W (fun b=>b < W.heap.size) fs fa) (h2:fs.length≤fc)=>rprogram_ok (w:=W) f K fs sc fns fa fc hK h1 h2 hfm.2 (fun p hp=>(hfm.1 p hp).2.1) (fun p hp=>(hfm.1 p hp).1) (fun p hp=>(hfm.1 p hp).2.2) hd hr hv hB);have HRD:=zh hrd;have HRE:=zh hre;have HTO:=zh htoo;generalize rMain fs 0 0=M at *;clear hmax hF hF2 hrd hre htoo hd hr hv hB hfm
 go_enter Tryz.func5,Tryz.ntmps5
 go_wp2_with (first
  | (go_at_call 8;refine Calls.mono (zu HT _) ?_;rintro e w1 ⟨hx,⟨h9,_⟩ | ⟨_,h9,_⟩ | ⟨_,_,fa,fc,rfl,hfc,hrf⟩⟩;(exact absurd (zu HRE) h9);(rw[zu HRD,zu HTO] at h9;cases h9);rw[zu HRD] at hfc hrf;rw[zu HRD];have r1:=hx.row (Go.heap_alloc_new w _);have X1:=zh hx;have HRF:=zh hrf;have hfc1:=hfc;clear hx hrf hfc)
  | (go_at_call 9;go_loud (refine Calls.mono (zu HP _ fa fc (RepFL.to (fun b hb=>⟨Nat.lt_of_lt_of_le hb (Ext.alloc _ _).size,(Ext.alloc _ _).block b hb⟩) (zu HRF)) hfc1) ?_;rintro e w3 ⟨pa,pc,rfl,hR,hX⟩;have r3:=((Ext.alloc w1 _).trans hX).row r1;have X3:=zh ((Ext.alloc w _).trans (((zu X1).trans (Ext.alloc _ _)).trans hX));have R3:=zh hR;have hlt3:w.heap.size < w3.heap.size:=(Array.getElem?_eq_some_iff.1 r3).1;have hne3:w.heap.size≠w3.heap.size:=Nat.ne_of_lt hlt3;have k0:=fun ob=>zr ((Ext.alloc w3 ob).row r3) 0 rfl;have k1:=fun ob=>zr ((Ext.alloc w3 ob).row r3) 1 rfl;have kf:=fun ob=>rowF ((Ext.alloc w3 ob).row r3);have s1:=fun ob v=>zr ((Ext.alloc _ ob).row (row_set r3 0 v)) 1 rfl;have sf:=fun ob v=>rowF ((Ext.alloc _ ob).row (row_set r3 0 v));have R3r:=zh r3;clear r3;clear hR hX r1)))
 obtain⟨W9,hW9⟩:∃ W9,W9=(((w3.setCell ⟨w.heap.size,0,none⟩ (Value.slice pa fns.length pc)).setCell ⟨w.heap.size,1,none⟩ (Value.int IntKind.i64 M)).alloc (Obj.cells #[Value.slice pa fns.length pc,Value.int IntKind.i64 M] 25)):=⟨_,rfl⟩;rw[← hW9];have b9:W9.heap[w.heap.size]? = some (.cells #[.slice pa fns.length pc,.int .i64 M] 25 (0,0)):=by
  rw[hW9];exact(Ext.alloc _ _).row (row_set (row_set (zu R3r) 0 _) 1 _)
 have k9:∀ q,q < w3.heap.size→q≠w.heap.size→W9.heap[q]? = w3.heap[q]?:=fun q hq hn=>by
  rw[hW9,(Ext.alloc _ _).block q (by simpa [World.setCell] using hq),Below.heap_setCell _ _ _ _ (by exact hn),Below.heap_setCell _ _ _ _ (by exact hn)]
 have X9:Ext w W9:=by
  rw[hW9];exact(((zu X3).set (Nat.le_refl _) _).set (Nat.le_refl _) _).trans (Ext.alloc _ _)
 have s9:w3.heap.size≤W9.heap.size:=by
  rw[hW9];simp[World.setCell]
 have u0:=zr b9 0 rfl;have u1:=zr b9 1 rfl;clear hW9 k0 k1 kf s1 sf;exact bodyPost_ret (v:=.tuple #[V.kpV pa fns.length pc M,.bool true]) (by simp[results,Tryz.results5,go_sem,u0,u1]) rfl ⟨pa,pc,rfl,V.RepP.to (fun q hq=>⟨Nat.lt_of_lt_of_le hq.2 s9,k9 q hq.2 (by have h1:=hq.1;have h2:=(zu X1).size;simp at h1 h2;omega)⟩) (zu R3),X9⟩
end
section
variable {w w' w2:World}
theorem nszF_memM:∀ {l:List PFn} {p:PFn},p ∈ l→nsz p.bd≤nszF l
 | q :: l,p,h=>by
  rw[nszF];rcases List.mem_cons.1 h with rfl | h
  ·omega
  ·have:=nszF_memM h;omega
theorem rd_formM (s:ByteArray) (F:Nat) (hF:(begP s).ts.length < F) (he:(rdP s F).2.e=0) (ht:tooP (rdP s F).1=false):(∀ p ∈ (rdP s F).1,gX p.bd∧p.ps.length≤1000∧nsz p.bd≤5000)∧(rdP s F).1.length≤16:=by
 have hl:=begP_len s;obtain⟨a,b,c⟩:=funs_j (len:=s.size) (sts_j s.size F F (Nat.le_refl _)).2.1 F F [] (begP s) (fun p h=>by cases h) (begP_nv s) (begP_tz s) hF;have hz:nszF (rdP s F).1≤5000:=by
  have h1:=c he;have h2:nszF (rdP s F).1+(rdP s F).2.ts.length≤nszF []+(begP s).ts.length:=h1;rw[nszF] at h2;omega
 unfold tooP at ht;rw[Bool.or_eq_false_iff] at ht;refine⟨fun p hp=>⟨(a p hp).2.2,?_,by have:=nszF_memM hp;omega⟩,?_⟩
 ·have h3:=List.any_eq_false.1 ht.2 p hp
  simp at h3;omega
 ·have h4:=ht.1
  simp at h4;exact h4
theorem made_ok (s:ByteArray) (F f K:Nat) (fs:List PFn) (sc:List PSc) (fns:List V.KF) (hmax:s.size≤9223372036854775807) (hF:(begP s).ts.length < F) (hF2:F≤90000) (hrd:(rdP s F).1=fs) (hre:(rdP s F).2.e=0) (htoo:tooP fs=false) (hK:K≤1000000) (hd:docP fs=(sc,0)) (hr:rFns f fs sc 0 []=some fns) (hv:∀ (z:Nat) (q:V.KF),fns[z]? = some q→V.HdOk q∧∃ hs:List Int,hs.length=q.code.length∧V.kHgt fns (z:Int) K=some (hs,0)) (hB:V.KfB fns) :
  Calls Tryz.prog 5 #[.string s] w fun e' w' => ∃ pa pc,e' = .returned (.tuple #[V.kpV pa fns.length pc (rMain fs 0 0),.bool true])∧V.RepP w' (V.In w') pa fns∧Ext w w':=by
 have hfm:=rd_formM s F hF hre (by rw[hrd];exact htoo);rw[hrd] at hfm;exact made_of s F f K fs sc fns hmax hF hF2 hrd hre htoo hfm hK hd hr hv hB
end
end Go.Proofs.YtjnpehohialmbaaGreat
