/- ScopeTells: what is plain of it. · The walk of the law ScopeTells. · From what a row lists of the package-level variables to what the walks ask of memory: the table of operators,the names of the operations,the six that are called by name,the sentinel of a range error. -/
import Derived.Test.YtgkdmgndebifiaaGreatDoorZd47
import Derived.Test.YtgkdmgndebifiaaGreatDoorZd40
import Derived.Test.YtgkdmgndebifiaaGreatDoorZd35
import Derived.Test.YtgkdmgndebifiaaGreatDoorRows
import Derived.Lib.LaidU8
import Derived.LaidMore
import Derived.LaidLaws
import Derived.ProofKit
set_option linter.unusedSimpArgs false
set_option linter.unusedVariables false
set_option maxRecDepth 10000
namespace Go.Proofs.YtgkdmgndebifiaaGreatDoor
open Go.RowKit Go.Maps
theorem nszF_mem:∀ {l:List PFn} {p:PFn},p ∈ l → nsz p.bd ≤ nszF l
 | q :: l,p,h => by
  rw [nszF]
  rcases List.mem_cons.1 h with rfl | h
  ·omega
  ·have:=nszF_mem h;omega
theorem rd_form (s:ByteArray) (he:(rdP s 5000).2.e = 0) (ht:tooP (rdP s 5000).1 = false):(∀ p ∈ (rdP s 5000).1,fX p ∧ p.ps.length ≤ 1000 ∧ nsz p.bd ≤ 5000):=by
 have hl:=begP_len s
 obtain ⟨a,b,c⟩:=funs_j (len:=s.size) (sts_j s.size 5000 5000 (Nat.le_refl _)).2.1 5000 5000 [] (begP s) (fun p h => by cases h) (begP_nv s) (begP_tz s) (by omega)
 have hz:nszF (rdP s 5000).1 ≤ 5000:=by
  have h1:=c he
  have h2:nszF (rdP s 5000).1 + (rdP s 5000).2.ts.length ≤ nszF [] + (begP s).ts.length:=h1
  rw [nszF] at h2
  omega
 refine fun p hp => ⟨a p hp,?_,by have:=nszF_mem hp;omega⟩
 unfold tooP at ht
 rw [Bool.or_eq_false_iff] at ht
 have h3:=List.any_eq_false.1 ht.2 p hp
 simp at h3
 omega
theorem dFn_bnd (fs:List PFn) (p:PFn) (hz:nsz p.bd ≤ 5000):(dFn fs p).1.sl.length ≤ 5000 ∧ (dFn fs p).1.cl.length ≤ 5000:=by
 unfold dFn
 split
 ·exact ⟨Nat.zero_le _,Nat.zero_le _⟩
 ·rename_i see hs
  split
  ·exact ⟨Nat.zero_le _,Nat.zero_le _⟩
  split
  ·exact ⟨Nat.zero_le _,Nat.zero_le _⟩
  ·have h:=dW_le fs (nsz p.bd) p.bd ⟨see,0,(p.ps.length:Int),[],[],0⟩
   have h1:(dW fs (nsz p.bd) p.bd ⟨see,0,(p.ps.length:Int),[],[],0⟩).sl.length ≤ 0 + nsz p.bd:=h.sl
   have h2:(dW fs (nsz p.bd) p.bd ⟨see,0,(p.ps.length:Int),[],[],0⟩).cl.length ≤ 0 + nsz p.bd:=h.cl
   exact ⟨by show (dW fs (nsz p.bd) p.bd _).sl.length ≤ _;omega,by show (dW fs (nsz p.bd) p.bd _).cl.length ≤ _;omega⟩
theorem dChk_bnd (fs:List PFn):∀ (l:List PFn) (acc:List PSc),(∀ p ∈ l,nsz p.bd ≤ 5000) → (∀ x ∈ acc,x.sl.length ≤ 5000 ∧ x.cl.length ≤ 5000) → (∀ x ∈ (dChk fs l acc).1,x.sl.length ≤ 5000 ∧ x.cl.length ≤ 5000) ∧ (dChk fs l acc).1.length ≤ acc.length + l.length
 | [],acc,h,ha => ⟨ha,by rw [dChk];simp⟩
 | p :: l,acc,h,ha => by
  rw [dChk]
  split
  ·exact ⟨fun x hx => (by cases hx),by simp⟩
  ·obtain ⟨a,b⟩:=dChk_bnd fs l (acc ++ [(dFn fs p).1]) (fun q hq => h q (by simp [hq])) (fun x hx => by
    rcases List.mem_append.1 hx with hx | hx
    ·exact ha x hx
    ·simp at hx;subst hx;exact dFn_bnd fs p (h p (by simp)))
   refine ⟨a,?_⟩
   simp only [List.length_append,List.length_cons,List.length_nil] at b ⊢
   omega
theorem docP_bnd (fs:List PFn) (h:∀ p ∈ fs,nsz p.bd ≤ 5000):(∀ x ∈ (docP fs).1,x.sl.length ≤ 5000 ∧ x.cl.length ≤ 5000) ∧ (docP fs).1.length ≤ fs.length ∧ ((docP fs).2 ≠ 0 → (docP fs).1 = []):=by
 have hb:=dChk_bnd fs fs [] h (fun x hx => by cases hx)
 unfold docP
 split
 ·exact ⟨fun x hx => (by cases hx),Nat.zero_le _,fun _ => rfl⟩
 ·split
  ·exact ⟨fun x hx => (by cases hx),Nat.zero_le _,fun _ => rfl⟩
  ·split
   ·exact ⟨fun x hx => (by cases hx),Nat.zero_le _,fun _ => rfl⟩
   ·exact ⟨hb.1,by have:=hb.2;simpa using this,fun h => absurd rfl h⟩
end Go.Proofs.YtgkdmgndebifiaaGreatDoor
namespace Go.Proofs.YtgkdmgndebifiaaGreatDoor
open Go.RowKit Go.Maps
set_option maxHeartbeats 1000000 in
theorem tells_walk (s:ByteArray) (w:World) (hmax:s.size ≤ 9223372036854775807) (he:Er w) (hO:Opx w) (hT:Tbl w) :
  Calls Tryz.prog 3 #[.string s] w fun e w' => e = .returned (.bool true) ∧ Ext w w':=by
 have hbl:=begP_len s
 have hA:∀ W,Ext w W → Calls Tryz.prog 6 #[] W fun e w' => e = .returned (.bool true) ∧ Ext W w':=fun W x => awake_w W (he.on x) (hO.ext x) (hT.ext x)
 have hPg:=program_all s 5000 w he hO hmax (by omega) (by omega)
 have hSrc:∀ r,srcP s 5000 100000 = some r → Calls Tryz.prog 4 #[.string s] w (SrcIs r w):=fun r hq => source_of s 5000 100000 w r hT hPg (by omega) (by omega) (by omega) hq
 have hPr:∀ W,Calls Tryz.prog 5 #[.string s] W (RToldF (rdP s 5000) W):=fun W => rprog_any s 5000 W hmax (by omega) (by omega)
 by_cases h0:(rdP s 5000).2.e = 0
 case neg =>
  refine tells_bad s w (rdP s 5000).2.pl (rdP s 5000).2.e h0 ((hSrc ⟨[],[],(rdP s 5000).2.pl,(rdP s 5000).2.e⟩ (by unfold srcP srcQ;rw [if_pos h0])).mono ?_) (fun W => (hPr W).mono ?_) hA
  ·rintro e w' ⟨hx,a,cap,b,cap2,rfl,_⟩
   exact ⟨⟨a,cap,b,cap2,rfl⟩,hx⟩
  ·rintro e w' ⟨hx,⟨_,rfl⟩ | ⟨h1,_⟩ | ⟨h1,_⟩⟩
   ·exact ⟨rfl,hx⟩
   ·exact absurd h1 h0
   ·exact absurd h1 h0
 cases ht:tooP (rdP s 5000).1
 case true =>
  refine tells_bad s w 0 65 (by decide) ((hSrc ⟨[],[],0,65⟩ (by unfold srcP srcQ;rw [if_neg (by simp [h0]),ht];rfl)).mono ?_) (fun W => (hPr W).mono ?_) hA
  ·rintro e w' ⟨hx,a,cap,b,cap2,rfl,_⟩
   exact ⟨⟨a,cap,b,cap2,rfl⟩,hx⟩
  ·rintro e w' ⟨hx,⟨h1,_⟩ | ⟨_,_,rfl⟩ | ⟨_,h1,_⟩⟩
   ·exact absurd h0 h1
   ·exact ⟨rfl,hx⟩
   ·exact absurd (ht.symm.trans h1) (by decide)
 obtain ⟨hcP,hcQ⟩:=rd_doc s h0 ht
 have hform:=rd_form s h0 ht
 have hbn:=docP_bnd (rdP s 5000).1 (fun p hp => (hform p hp).2.2)
 have hfn:(rdP s 5000).1.length ≤ 100000:=by
  have h:=funs_len s.size (stsP s.size 5000 5000).2.1 5000 (sts_le s.size 5000 5000).2.1 5000 [] (begP s)
  have h3:(rdP s 5000).1.length ≤ 0 + (begP s).ts.length:=h
  omega
 have hB:=rd_bl s 5000 (by omega)
 have hsq:srcP s 5000 100000 = if (docP (rdP s 5000).1).2 ≠ 0 then some ⟨[],[],0,(docP (rdP s 5000).1).2⟩ else some ⟨(rdP s 5000).1,(docP (rdP s 5000).1).1,0,0⟩:=by
  unfold srcP srcQ
  rw [if_neg (by simp [h0]),ht,if_neg (by decide),hcP]
 have hPr2:∀ W,Calls Tryz.prog 5 #[.string s] W fun e w' => ∃ a cap,e = .returned (tolV (.slice a (rdP s 5000).1.length cap) 0 0 emptyB 0 (.slice none 0 0) 0 0) ∧ (rdP s 5000).1.length ≤ cap ∧ RepFL w' (InW w') (rdP s 5000).1 a ∧ Ext W w':=fun W => (hPr W).mono (by
  rintro e w' ⟨hx,⟨h1,_⟩ | ⟨_,h1,_⟩ | ⟨_,_,a,cap,rfl,h2,h3⟩⟩
  ·exact absurd h0 h1
  ·exact absurd (ht.symm.trans h1) (by decide)
  ·exact ⟨a,cap,rfl,h2,h3,hx⟩)
 have hC:=fun (W:World) (a:Option Addr) (cap:Nat) (h1:(rdP s 5000).1.length ≤ cap) (h2:RepFL W (InW W) (rdP s 5000).1 a) => rcheck_w (rdP s 5000).1 a cap W h2 h1 hfn (fun p hp => (hform p hp).2.1) (fun p hp => (hform p hp).1.2.2) (fun p hp => (hform p hp).2.2)
 have hD:=fun (W:World) (x:Ext w W) (a:Option Addr) (cap:Nat) (h1:(rdP s 5000).1.length ≤ cap) (h2:RepFL W (InW W) (rdP s 5000).1 a) => check_w (rdP s 5000).1 a cap 100000 W (docP (rdP s 5000).1) h2 h1 (by omega) (hT.ext x) (fun p hp => small_of (hform p hp).1.1) (fun p hp => by have:=(hform p hp).2.1;omega) (by omega) hcQ
 by_cases hE:(docP (rdP s 5000).1).2 = 0
 case neg =>
  have hnil:=hbn.2.2 hE
  refine tells_err s w (rdP s 5000).1 (docP (rdP s 5000).1).2 hE ((hSrc _ (by rw [hsq,if_pos hE])).mono ?_) hPr2 (fun W a cap h1 h2 => (hC W a cap h1 h2).mono ?_) (fun W x a cap h1 h2 => (hD W x a cap h1 h2).mono ?_) hA
  ·rintro e w' ⟨hx,a,cap,b,cap2,rfl,_⟩
   exact ⟨⟨a,cap,b,cap2,rfl⟩,hx⟩
  ·rintro e w' ⟨hx,b,c2,rfl,_⟩
   exact ⟨⟨b,c2,by rw [hnil];rfl⟩,hx⟩
  ·rintro e w' ⟨hx,b,c2,rfl,_⟩
   exact ⟨⟨b,c2,by rw [hnil];rfl⟩,hx⟩
 ·have hl9:=hbn.2.1
  refine tells_ok s w (rdP s 5000).1 (docP (rdP s 5000).1).1 hbn.1 (by omega) ((hSrc _ (by rw [hsq,if_neg (by simp [hE])])).mono ?_) hPr2 (fun W a cap h1 h2 => (hC W a cap h1 h2).mono ?_) (fun W x a cap h1 h2 => (hD W x a cap h1 h2).mono ?_) (fun W a b ca cb h1 h2 => rsameF_bl _ hB a b ca cb W h1 h2 (by omega)) hA
  ·rintro e w' ⟨hx,a,cap,b,cap2,rfl,_,h3,_,h4⟩
   exact ⟨a,cap,b,cap2,rfl,h3.to (fun b hb => ⟨hb.2,rfl⟩),h4.to (fun b hb => ⟨hb.2,rfl⟩),hx⟩
  ·rintro e w' ⟨hx,b,c2,rfl,_,h4⟩
   exact ⟨b,c2,by rw [hE],h4.to (fun b hb => ⟨hb.2,rfl⟩),hx⟩
  ·rintro e w' ⟨hx,b,c2,rfl,_,h4⟩
   exact ⟨b,c2,by rw [hE],h4.to (fun b hb => ⟨hb.2,rfl⟩),hx⟩
end Go.Proofs.YtgkdmgndebifiaaGreatDoor
namespace Go.Proofs.YtgkdmgndebifiaaGreatDoor
open Go.RowKit Go.Maps
def oprD (o:Opr):DataW Unit:=.agg [.lit (.string o.s.data.toList),.lit (.int .i64 o.lv),.lit (.int .i64 o.k),.lit (.int .i64 o.o)]
theorem bytes_of_list {s t:ByteArray} (h:s.data.toList = t.data.toList):s = t:=by
 cases s;cases t
 simpa using h
theorem one_of_take {cs:List Value} {k:Nat} {v:Value} (h:(cs.drop k).take 1 = [v]):cs[k]? = some v:=by
 have:=congrArg (·[0]?) h
 simpa [List.getElem?_take,List.getElem?_drop] using this
theorem opr_of_trod {W:World} {fuel:Nat} {cs:List Value} {q:List MemPlace} (o:Opr)
  (h:DataW.trod (fun _ => ()) Tryz.prog W 0 (fun _ => true) false fuel 149 cs = some (oprD o,q)):∀ r < 4,cs[r]? = (oprC o)[r]?:=by
 obtain ⟨xs,n,rfl,hx,hl,hxl,hall⟩:=DataW.trod_struct Tryz.underlying149 h
 have hd:xs.map (·.1) = [.lit (.string o.s.data.toList),.lit (.int .i64 o.lv),.lit (.int .i64 o.k),.lit (.int .i64 o.o)]:=by
  have:=congrArg Prod.fst hx
  simpa [oprD] using this.symm
 obtain ⟨x0,x1,x2,x3,rfl⟩:∃ x0 x1 x2 x3,xs = [x0,x1,x2,x3]:=by
  match xs,hxl with
  | [x0,x1,x2,x3],_ => exact ⟨x0,x1,x2,x3,rfl⟩
 simp only [List.map_cons,List.map_nil,List.cons.injEq,and_true] at hd
 obtain ⟨d0,d1,d2,d3⟩:=hd
 have c3:Tryz.prog.cellsOf 9 = 1:=by kernel_rfl
 have c1:Tryz.prog.cellsOf 3 = 1:=by kernel_rfl
 have h0:DataW.trod (fun _ => ()) Tryz.prog W 0 (fun _ => true) false n 9 ((cs.drop 0).take (Tryz.prog.cellsOf 9)) = some x0:=hall 0 _ rfl
 have h1:DataW.trod (fun _ => ()) Tryz.prog W 0 (fun _ => true) false n 3 ((cs.drop 1).take (Tryz.prog.cellsOf 3)) = some x1:=hall 1 _ rfl
 have h2:DataW.trod (fun _ => ()) Tryz.prog W 0 (fun _ => true) false n 3 ((cs.drop 2).take (Tryz.prog.cellsOf 3)) = some x2:=hall 2 _ rfl
 have h3:DataW.trod (fun _ => ()) Tryz.prog W 0 (fun _ => true) false n 3 ((cs.drop 3).take (Tryz.prog.cellsOf 3)) = some x3:=hall 3 _ rfl
 obtain ⟨s,e0,y0,_⟩:=DataW.trod_string Tryz.underlying9 h0
 obtain ⟨a,e1,y1,_⟩:=DataW.trod_int Tryz.underlying3 h1
 obtain ⟨b,e2,y2,_⟩:=DataW.trod_int Tryz.underlying3 h2
 obtain ⟨c,e3,y3,_⟩:=DataW.trod_int Tryz.underlying3 h3
 subst y0 y1 y2 y3
 simp only [DataW.lit.injEq,Lit.string.injEq,Lit.int.injEq,true_and] at d0 d1 d2 d3
 obtain rfl:=bytes_of_list d0
 subst d1 d2 d3
 rw [c3] at e0
 rw [c1] at e1 e2 e3
 have g0:=one_of_take e0
 have g1:=one_of_take e1
 have g2:=one_of_take e2
 have g3:=one_of_take e3
 intro r hr
 match r,hr with
 | 0,_ => exact g0
 | 1,_ => exact g1
 | 2,_ => exact g2
 | 3,_ => exact g3
theorem opTab_at (i r:Nat) (o:Opr) (h:oprs[i]? = some o) (hr:r < 4):opTab[i * 4 + r]? = (oprC o)[r]?:=by
 match i,h with
 | 0,h => obtain rfl:=Option.some.inj h;match r,hr with | 0,_ => rfl | 1,_ => rfl | 2,_ => rfl | 3,_ => rfl
 | 1,h => obtain rfl:=Option.some.inj h;match r,hr with | 0,_ => rfl | 1,_ => rfl | 2,_ => rfl | 3,_ => rfl
 | 2,h => obtain rfl:=Option.some.inj h;match r,hr with | 0,_ => rfl | 1,_ => rfl | 2,_ => rfl | 3,_ => rfl
 | 3,h => obtain rfl:=Option.some.inj h;match r,hr with | 0,_ => rfl | 1,_ => rfl | 2,_ => rfl | 3,_ => rfl
 | 4,h => obtain rfl:=Option.some.inj h;match r,hr with | 0,_ => rfl | 1,_ => rfl | 2,_ => rfl | 3,_ => rfl
 | 5,h => obtain rfl:=Option.some.inj h;match r,hr with | 0,_ => rfl | 1,_ => rfl | 2,_ => rfl | 3,_ => rfl
 | 6,h => obtain rfl:=Option.some.inj h;match r,hr with | 0,_ => rfl | 1,_ => rfl | 2,_ => rfl | 3,_ => rfl
 | 7,h => obtain rfl:=Option.some.inj h;match r,hr with | 0,_ => rfl | 1,_ => rfl | 2,_ => rfl | 3,_ => rfl
 | 8,h => obtain rfl:=Option.some.inj h;match r,hr with | 0,_ => rfl | 1,_ => rfl | 2,_ => rfl | 3,_ => rfl
 | 9,h => obtain rfl:=Option.some.inj h;match r,hr with | 0,_ => rfl | 1,_ => rfl | 2,_ => rfl | 3,_ => rfl
 | 10,h => obtain rfl:=Option.some.inj h;match r,hr with | 0,_ => rfl | 1,_ => rfl | 2,_ => rfl | 3,_ => rfl
 | 11,h => obtain rfl:=Option.some.inj h;match r,hr with | 0,_ => rfl | 1,_ => rfl | 2,_ => rfl | 3,_ => rfl
 | 12,h => obtain rfl:=Option.some.inj h;match r,hr with | 0,_ => rfl | 1,_ => rfl | 2,_ => rfl | 3,_ => rfl
 | 13,h => obtain rfl:=Option.some.inj h;match r,hr with | 0,_ => rfl | 1,_ => rfl | 2,_ => rfl | 3,_ => rfl
 | 14,h => obtain rfl:=Option.some.inj h;match r,hr with | 0,_ => rfl | 1,_ => rfl | 2,_ => rfl | 3,_ => rfl
 | 15,h => obtain rfl:=Option.some.inj h;match r,hr with | 0,_ => rfl | 1,_ => rfl | 2,_ => rfl | 3,_ => rfl
 | i + 16,h => simp [oprs] at h
theorem opx_of_reads {W:World} (h:Lib.VarReads Tryz.prog W "ratline/parse.operators" (.agg (oprs.map oprD))):Opx W:=by
 obtain ⟨g,t,cs,fuel,p,hg,hty,hvar,hd⟩:=h
 obtain rfl:=Option.some.inj ((show Tryz.prog.globalNamed "ratline/parse.operators" = some 4 by kernel_rfl).symm.trans hg)
 obtain rfl:=Option.some.inj ((show (Tryz.prog.globals[4]?).map (·.type) = some 170 by kernel_rfl).symm.trans hty)
 have c4:Tryz.prog.cellsOf 149 = 4:=by kernel_rfl
 intro j v hv
 have hj:j < 64:=by
  obtain ⟨hl,_⟩:=List.getElem?_eq_some_iff.1 hv
  exact hl
 obtain ⟨fuel',d,q,hdi,he⟩:=Lib.array_elem Tryz.underlying170 hd (j / 4) (by omega)
 rw [List.getElem?_map] at hdi
 obtain ⟨o,ho,rfl⟩:=Option.map_eq_some_iff.1 hdi
 have h1:=opr_of_trod o he (j % 4) (by omega)
 rw [c4,List.getElem?_take_of_lt (by omega),List.getElem?_drop] at h1
 have h2:=opTab_at (j / 4) (j % 4) o ho (by omega)
 have hjj:j / 4 * 4 + j % 4 = j:=by omega
 rw [hjj] at h1 h2
 rw [Nat.zero_add,World.var?_cell hg hvar j,← Array.getElem?_toList,h1,← h2,hv]
def nmS:List ByteArray:=[⟨#[]⟩,⟨#[43]⟩,⟨#[45]⟩,⟨#[42]⟩,⟨#[47]⟩,⟨#[37]⟩,⟨#[61,61]⟩,⟨#[33,61]⟩,⟨#[60]⟩,⟨#[60,61]⟩,⟨#[62]⟩,⟨#[62,61]⟩,⟨#[91,93]⟩,⟨#[112,117,115,104]⟩,⟨#[99,120]⟩,⟨#[45]⟩,⟨#[33]⟩,⟨#[108,101,110]⟩,⟨#[114,101]⟩,⟨#[105,109]⟩,⟨#[99,111,110,106]⟩]
def nmD:DataW Unit:=.agg (nmS.map fun s => .lit (.string s.data.toList))
theorem nm_of_reads {W:World} (h:Lib.VarReads Tryz.prog W "ratline/ops.names" nmD) (j:Nat) (s:ByteArray) (hs:nmS[j]? = some s):W.cell? ⟨1,j,none⟩ = some (.string s):=by
 obtain ⟨g,t,cs,fuel,p,hg,hty,hvar,hd⟩:=h
 obtain rfl:=Option.some.inj ((show Tryz.prog.globalNamed "ratline/ops.names" = some 1 by kernel_rfl).symm.trans hg)
 obtain rfl:=Option.some.inj ((show (Tryz.prog.globals[1]?).map (·.type) = some 116 by kernel_rfl).symm.trans hty)
 have c1:Tryz.prog.cellsOf 9 = 1:=by kernel_rfl
 obtain ⟨hl,_⟩:=List.getElem?_eq_some_iff.1 hs
 have hl':j < 21:=hl
 obtain ⟨fuel',d,q,hdi,he⟩:=Lib.array_elem Tryz.underlying116 hd j hl'
 rw [List.getElem?_map,hs] at hdi
 obtain rfl:=Option.some.inj hdi
 obtain ⟨s',e0,y0,_⟩:=DataW.trod_string Tryz.underlying9 he
 simp only [Prod.mk.injEq,DataW.lit.injEq,Lit.string.injEq] at y0
 obtain rfl:=bytes_of_list y0.1
 rw [c1,Nat.mul_one] at e0
 rw [World.var?_cell hg hvar j,← Array.getElem?_toList]
 exact one_of_take e0
theorem bi_of_reads {W:World} (h:Lib.VarReads Tryz.prog W "ratline/scope.calledByName" (Lib.tabData .i64 [13,14,17,18,19,20])):W.rangeAt 0 0 biT:=by
 obtain ⟨g,t,cs,fuel,p,hg,hty,hvar,hd⟩:=h
 obtain rfl:=Option.some.inj ((show Tryz.prog.globalNamed "ratline/scope.calledByName" = some 0 by kernel_rfl).symm.trans hg)
 obtain rfl:=Option.some.inj ((show (Tryz.prog.globals[0]?).map (·.type) = some 95 by kernel_rfl).symm.trans hty)
 have hcs:=Lib.cells_of_tab Tryz.underlying95 Tryz.underlying3 (by kernel_rfl) (by kernel_rfl) hd
 intro j v hv
 rw [Nat.zero_add,World.var?_cell hg hvar j,← Array.getElem?_toList,hcs]
 exact hv
theorem er_of_reads {W:World} (h:Lib.VarReads Tryz.prog W "strconv.ErrRange" Rows.laid_strconv_ErrRange):Er W:=by
 obtain ⟨g,t,cs,fuel,p,hg,ht,hv,hd⟩:=h
 obtain rfl:=Option.some.inj ((show Tryz.prog.globalNamed "strconv.ErrRange" = some 3 by kernel_rfl).symm.trans hg)
 obtain rfl:=Option.some.inj ((show (Tryz.prog.globals[3]?).map (·.type) = some 137 by kernel_rfl).symm.trans ht)
 obtain ⟨fuel',u,v,hcs,_,_⟩:=iface_of_trod Tryz.underlying137 hd
 have h0:=World.var?_cell hg hv 0
 refine ⟨u,v,h0.trans ?_⟩
 obtain rfl:cs = #[.iface u v]:=by cases cs;simp_all
 rfl
theorem tbl_of_reads {W:World} (h:Lib.VarReads Tryz.prog W "ratline/ops.names" nmD) (h2:Lib.VarReads Tryz.prog W "ratline/scope.calledByName" (Lib.tabData .i64 [13,14,17,18,19,20])):Tbl W:=by
 refine ⟨bi_of_reads h2,fun j x hx => nm_of_reads h _ _ ?_⟩
 match j,hx with
 | 0,h => obtain rfl:=Option.some.inj h;rfl
 | 1,h => obtain rfl:=Option.some.inj h;rfl
 | 2,h => obtain rfl:=Option.some.inj h;rfl
 | 3,h => obtain rfl:=Option.some.inj h;rfl
 | 4,h => obtain rfl:=Option.some.inj h;rfl
 | 5,h => obtain rfl:=Option.some.inj h;rfl
 | j + 6,h => simp [biL] at h
end Go.Proofs.YtgkdmgndebifiaaGreatDoor
