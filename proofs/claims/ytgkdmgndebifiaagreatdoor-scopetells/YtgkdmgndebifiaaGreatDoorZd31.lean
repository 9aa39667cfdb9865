/- A reader at a text's begin;too many functions or parameters;all functions of a text. · Trees,texts and functions that lie anywhere in a world. · What it means that the document finds a tree the same as itself. · The document's Expr,at any text. -/
import Derived.Test.YtgkdmgndebifiaaGreatDoorZd26
import Derived.Test.YtgkdmgndebifiaaGreatDoorZd16
import Derived.Test.YtgkdmgndebifiaaGreatDoorZd17
import Derived.Test.YtgkdmgndebifiaaGreatDoorZd30
set_option linter.unusedSimpArgs false
set_option linter.unusedVariables false
set_option maxRecDepth 10000
namespace Go.Proofs.YtgkdmgndebifiaaGreatDoor
open Go.RowKit
theorem lexF_len:∀ (f:Nat) (s:ByteArray) (o:Nat),(lexF f s o).1.length ≤ f
 | 0,s,o => by simp [lexF]
 | f + 1,s,o => by
  rw [lexF]
  split
  ·simp
  ·split
   ·simp
   ·have:=lexF_len f s
    simp only [List.length_cons]
    rename_i m _
    have h:=this m
    omega
def begP (s:ByteArray):PS:=if 4000 < s.size then ⟨[],0,0,2⟩ else match (lexF (s.size + 1) s 0).2 with
 | some b => ⟨[],0,(b:Nat),10⟩
 | none => ⟨(lexF (s.size + 1) s 0).1,0,0,0⟩
theorem begP_len (s:ByteArray):(begP s).ts.length < 4002:=by
 unfold begP
 split
 ·simp
 ·have:=lexF_len (s.size + 1) s 0
  split
  ·simp
  ·show (lexF (s.size + 1) s 0).1.length < 4002
   omega
theorem begP_long {s:ByteArray} (h:4000 < s.size):begP s = ⟨[],0,0,2⟩:=by unfold begP;rw [if_pos h]
theorem begP_bad {s:ByteArray} (h:s.size ≤ 4000) {b:Nat} (hb:(lexF (s.size + 1) s 0).2 = some b):begP s = ⟨[],0,(b:Nat),10⟩:=by unfold begP;rw [if_neg (by omega),hb]
theorem begP_good {s:ByteArray} (h:s.size ≤ 4000) (hb:(lexF (s.size + 1) s 0).2 = none):begP s = ⟨(lexF (s.size + 1) s 0).1,0,0,0⟩:=by unfold begP;rw [if_neg (by omega),hb]
theorem Sl.own {w1:World} {base g:Nat} {v:Value} {ts:List Tk} (hown:w1.ownsRow base 123 4 v ts.length (ts.flatMap tkC)) (hg:w1.heap.size ≤ g) (ob:Obj):Sl (w1.alloc ob) g v ts:=by
 obtain ⟨hlen,⟨e,h0⟩ | ⟨b,cap,cur,rfl,hb,hrow,hc,hcm,_⟩⟩:=id hown
 ·have:ts = []:=List.length_eq_zero_iff.1 h0
  subst this
  rw [e]
  exact slNil _ _
 ·refine ⟨_,cap,rfl,hc,by unfold maxLen at hcm;omega,Or.inr ⟨b,0,rfl,Nat.lt_of_lt_of_le (Array.getElem?_eq_some_iff.1 hrow).1 hg,fun j u hu => (Ext.alloc w1 ob).cell (cells_own hown j u hu)⟩⟩
theorem toks_beg (s:ByteArray) (w:World) (he:Er w) (hmax:s.size ≤ 140737488355328) :
  Calls Tryz.prog 42 #[.string s] w fun e w' => ∃ a n cap,e = .returned (.tuple #[.slice a n cap,.int .i64 (begP s).pl,.int .i64 (begP s).e]) ∧ (begP s).op = 0 ∧ (∀ ob,Sl (w'.alloc ob) w'.heap.size (.slice a n cap) (begP s).ts) ∧ Ext w w':=by
 refine (tokens_any s w he hmax).mono ?_
 rintro e w1 (⟨hlong,rfl,hx⟩ | ⟨hlong,b,hb,rfl,hx⟩ | ⟨hlong,hb,v,rfl,hown,hx⟩)
 ·rw [begP_long hlong]
  exact ⟨none,0,0,rfl,rfl,fun _ => slNil _ _,hx⟩
 ·rw [begP_bad hlong hb]
  exact ⟨none,0,0,rfl,rfl,fun _ => slNil _ _,hx⟩
 ·rw [begP_good hlong hb]
  have hs:=fun ob => Sl.own hown (Nat.le_refl _) ob
  obtain ⟨hlen,⟨e,h0⟩ | ⟨b,cap,cur,e,_⟩⟩:=id hown
  ·subst e
   exact ⟨none,0,0,rfl,rfl,hs,hx⟩
  ·subst e
   exact ⟨_,_,cap,rfl,rfl,hs,hx⟩
set_option maxHeartbeats 1000000 in
theorem pbegin_any (s:ByteArray) (w:World) (he:Er w) (hmax:s.size ≤ 140737488355328) :
  Calls Tryz.prog 22 #[.string s] w fun e w' => ∃ g,e = .returned (.pointer (some ⟨g,0,none⟩)) ∧ w.heap.size ≤ g ∧ St w' g s.size (begP s) ∧ Ext w w':=by
 have HT:=hide (toks_beg s w he hmax)
 generalize begP s = st at *
 obtain ⟨ts,op,pl,er⟩:=st
 go_enter Tryz.func22,Tryz.ntmps22
 go_wp2_with (go_at_call 42;refine Calls.mono (unhide HT) ?_;rintro e w1 ⟨a,n,cap,rfl,hop,hs,hx⟩;have HO:=hide hop;have HS:=hide hs;have X:=hide hx;clear hop hs hx)
 go_ret
 have hop:op = 0:=unhide HO
 subst hop
 exact ⟨_,rfl,(unhide X).le,⟨⟨_,Go.heap_alloc_new w1 _,unhide HS _⟩⟩,(unhide X).trans (Ext.alloc _ _)⟩
def tooP (fs:List PFn):Bool:=decide (16 < fs.length) || fs.any (fun p => decide (8 < p.ps.length))
theorem RowF.at {w:World} {F:Nat → Prop}:∀ {ps:List PFn} {xs:List Value} {j:Nat} {p:PFn},RowF w F ps xs → ps[j]? = some p → ∃ pa pc a cap,p.ps.length ≤ pc ∧ p.bd.l.length ≤ cap ∧ RepS w F p.ps pa ∧ RepNL w F p.bd.l a ∧ ∀ i u,(fnC p pa pc a cap)[i]? = some u → xs[j * 7 + i]? = some u:=by
 intro ps
 induction ps with
 | nil => intro xs j p _ h;simp at h
 | cons q ps ih =>
  intro xs j p hr h
  obtain ⟨pa,pc,a,cap,rest,rfl,hp,hs,hb,hl,hr⟩:=hr
  cases j with
  | zero =>
   obtain rfl:q = p:=by simpa using h
   refine ⟨pa,pc,a,cap,hp,hb,hs,hl,fun i u hu => ?_⟩
   rw [Nat.zero_mul,Nat.zero_add,List.getElem?_append_left (List.getElem?_eq_some_iff.1 hu).1]
   exact hu
  | succ j =>
   obtain ⟨pa',pc',a',cap',hp',hb',hs',hl',hc⟩:=ih hr (by simpa using h)
   refine ⟨pa',pc',a',cap',hp',hb',hs',hl',fun i u hu => ?_⟩
   rw [List.getElem?_append_right (by show 7 ≤ _;omega)]
   have:=hc i u hu
   rw [show (j + 1) * 7 + i - (fnC q pa pc a cap).length = j * 7 + i by show (j + 1) * 7 + i - 7 = _;omega]
   exact this
set_option maxHeartbeats 1000000 in
theorem tooF_any (nm:ByteArray) (pa:Option Addr) (pn pc:Nat) (k o:Int) (s:ByteArray) (n:Int) (a:Option Addr) (ln cap:Nat) (W:World) :
  Calls Tryz.prog 46 #[funV nm pa pn pc k o s n a ln cap] W fun e w' => e = .returned (.bool (decide (8 < pn))) ∧ Ext W w':=by
 go_enter Tryz.func46,Tryz.ntmps46
 go_wp2_with fail
 go_ret
 refine ⟨?_,Ext.alloc _ _⟩
 congr 2
 simp
 omega
theorem callTooF (v:Value) (W:World):(callFunc 46 #[v]).run Tryz.prog W = .ok (.enter 46 #[v]) W:=by kernel_rfl
set_option maxHeartbeats 1000000 in
theorem idx_fun (fs:List PFn) (a:Option Addr) (cap:Nat) (F:Nat → Prop) (w:World) (hr:RepFL w F fs a) (hcap:fs.length ≤ cap) (hf2:fs.length ≤ 100001) :
  Calls Tryz.prog 62 #[.slice a fs.length cap,fnV 46] w fun e w' => (∃ r:Int,e = .returned (.int .i64 r) ∧ (decide (0 ≤ r) = fs.any (fun p => decide (8 < p.ps.length)))) ∧ Ext w w':=by
 have HR:=hide hr
 have HC:=hide callTooF
 clear hr
 go_enter Tryz.func62,Tryz.ntmps62
 go_wp2_with fail
 go_loopw [8] (fun i wr => ∃ j:Nat,i = .int .i64 j ∧ j ≤ fs.length ∧ Hd ((fs.take j).any (fun p => decide (8 < p.ps.length)) = false) ∧ Hd (Ext w wr)) (fun i _ => fs.length - (intOf i).toNat)
 case atStart => exact ⟨0,rfl,by omega,by simp [Hd],Ext.refl _⟩
 case round =>
  obtain ⟨j,rfl,hj,hN,hE⟩:=hrel
  by_cases hlt:j < fs.length
  ·obtain ⟨p,hp⟩:∃ p,fs[j]? = some p:=⟨_,List.getElem?_eq_getElem hlt⟩
   rcases unhide HR with hnil | ⟨b,off,xs,rfl,hb,hx,hc⟩
   ·rw [hnil] at hlt;simp at hlt
   obtain ⟨pa,pc,a2,cap2,h1,h2,_,_,hat⟩:=hx.at hp
   have p0:=(unhide hE).cell (hc _ _ (hat 0 _ rfl))
   have p1:=(unhide hE).cell (hc _ _ (hat 1 _ rfl))
   have p2:=(unhide hE).cell (hc _ _ (hat 2 _ rfl))
   have p3:=(unhide hE).cell (hc _ _ (hat 3 _ rfl))
   have p4:=(unhide hE).cell (hc _ _ (hat 4 _ rfl))
   have p5:=(unhide hE).cell (hc _ _ (hat 5 _ rfl))
   have p6:=(unhide hE).cell (hc _ _ (hat 6 _ rfl))
   simp only [← Nat.add_assoc,Nat.add_zero] at p0 p1 p2 p3 p4 p5 p6
   have hT:=tooF_any p.nm pa p.ps.length pc p.bd.k p.bd.o p.bd.s p.bd.n a2 p.bd.l.length cap2
   have HT:=hide hT
   clear hT hx hc hat hb
   have htk:fs.take (j + 1) = fs.take j ++ [p]:=by
    rw [List.take_succ_eq_append_getElem hlt,(List.getElem?_eq_some_iff.1 hp).2]
   cases hd:decide (8 < p.ps.length)
   ·rw [hd] at HT
    have HN2:Hd ((fs.take (j + 1)).any (fun p => decide (8 < p.ps.length)) = false):=by
     unfold Hd
     rw [htk,List.any_append,unhide hN]
     simpa using hd
    clear htk hd hp
    go_wp2_with (go_at_call 46;refine Calls.mono (unhide HT _) ?_;rintro e w1 ⟨rfl,hw⟩;have X:=hide hw;clear hw)
    go_roundw
    case rel => exact ⟨j + 1,by go_num,by omega,HN2,(unhide hE).trans (unhide X)⟩
    case measure => simp [intOf];omega
   ·rw [hd] at HT
    have HA:Hd (fs.any (fun p => decide (8 < p.ps.length)) = true):=List.any_eq_true.2 ⟨p,List.mem_of_getElem? hp,hd⟩
    clear htk hd hp
    go_wp2_with (go_at_call 46;refine Calls.mono (unhide HT _) ?_;rintro e w1 ⟨rfl,hw⟩;have X:=hide hw;clear hw)
    go_ret
    exact ⟨⟨_,rfl,by rw [unhide HA];simp⟩,(unhide hE).trans (unhide X)⟩
  ·have hj2:j = fs.length:=by omega
   have HA:Hd (fs.any (fun p => decide (8 < p.ps.length)) = false):=by
    have h:=unhide hN
    rw [hj2,List.take_length] at h
    exact h
   clear hj2
   go_wp2_with fail
   go_ret
   exact ⟨⟨_,rfl,by rw [unhide HA];decide⟩,unhide hE⟩
set_option maxHeartbeats 1000000 in
theorem too_any (fs:List PFn) (a:Option Addr) (cap:Nat) (F:Nat → Prop) (w:World) (hr:RepFL w F fs a) (hcap:fs.length ≤ cap) (hf2:fs.length ≤ 100001) :
  Calls Tryz.prog 24 #[.slice a fs.length cap] w fun e w' => e = .returned (.bool (tooP fs)) ∧ Ext w w':=by
 have HI:=hide (idx_fun fs a cap F w hr hcap hf2)
 have HC:Hd (Calls Tryz.prog 45 #[.slice a fs.length cap,fnV 46] w fun e w' => e = .returned (.bool (fs.any (fun p => decide (8 < p.ps.length)))) ∧ Ext w w'):=by
  unfold Hd
  go_enter Tryz.func45,Tryz.ntmps45
  go_wp2_with (go_at_call 62;refine Calls.mono (unhide HI) ?_;rintro e w1 ⟨⟨r,rfl,hq⟩,hw⟩;have X:=hide hw;have Q:=hide hq;clear hw hq)
  go_ret
  exact ⟨by rw [← unhide Q];rfl,unhide X⟩
 clear HI hr
 unfold tooP
 cases h16:decide (16 < fs.length)
 ·have h:¬ 16 < fs.length:=by simpa using h16
  have h2:decide ((16:Int) < (fs.length:Int)) = false:=by simp;omega
  clear h16
  go_enter Tryz.func24,Tryz.ntmps24
  go_wp2_with (go_at_call 45;refine Calls.mono (unhide HC) ?_;rintro e w1 ⟨rfl,hw⟩;have X:=hide hw;clear hw)
  go_ret
  exact ⟨by simp,unhide X⟩
 ·have h:16 < fs.length:=by simpa using h16
  have h2:decide ((16:Int) < (fs.length:Int)) = true:=by simp;omega
  clear h16
  go_enter Tryz.func24,Tryz.ntmps24
  go_wp2_with fail
  go_ret
  exact ⟨by simp,Ext.refl _⟩
def rdP (s:ByteArray) (f:Nat):List PFn × PS:=funsP s.size (stsP s.size f f).2.1 f f [] (begP s)
def ProgOf (q:List PFn × PS) (w:World) (e:Ending) (w':World):Prop :=
 Ext w w' ∧ ((q.2.e ≠ 0 ∧ e = .returned (.tuple #[.slice none 0 0,.int .i64 q.2.pl,.int .i64 q.2.e])) ∨
 (q.2.e = 0 ∧ tooP q.1 = true ∧ e = .returned (.tuple #[.slice none 0 0,.int .i64 0,.int .i64 65])) ∨
 (q.2.e = 0 ∧ tooP q.1 = false ∧ ∃ a cap,e = .returned (.tuple #[.slice a q.1.length cap,.int .i64 0,.int .i64 0]) ∧ q.1.length ≤ cap ∧ RepFL w' (Fr w.heap.size w'.heap.size) q.1 a))
theorem funs_len (len:Nat) (bl:Rdr) (f:Nat) (hb:Shorter bl):∀ (j:Nat) (acc:List PFn) (st:PS),(funsP len bl f j acc st).1.length ≤ acc.length + st.ts.length
 | 0,acc,st => by simp [funsP]
 | j + 1,acc,st => by
  rw [funsP]
  split
  ·simp
  ·rename_i hz
   have hne:st.ts ≠ []:=fun e => by rw [e] at hz;simp at hz
   have h1:=funs_len len bl f hb j (acc ++ [(funP len bl f st).1]) (funP len bl f st).2
   have h2:=fun_lt (len:=len) (f:=f) hb hne
   simp at h1
   omega
theorem opx_lt {w:World} (h:Opx w):4 < w.heap.size :=
 World.block_lt_of_cell? w ⟨4,0,none⟩ (h 0 _ rfl)
set_option maxHeartbeats 1000000 in
theorem program_any (s:ByteArray) (f:Nat) (w:World) (he:Er w) (hO:Opx w) (hmax:s.size ≤ 140737488355328) (hf:(begP s).ts.length < f) (hf2:f ≤ 100000) :
  Calls Tryz.prog 11 #[.string s] w (ProgOf (rdP s f) w):=by
 have HBg:=hide (pbegin_any s w he hmax)
 have hlen:=funs_len s.size (stsP s.size f f).2.1 f (blkIs_le s.size f) f [] (begP s)
 have HF:=hide (fun gg W (x:Rs W gg s.size (begP s)) => funs_any s.size gg (stsP s.size f f).2.1 f (begP s) W x hf hf2 (blkIs_le s.size f) (fun p hp => (blkIs gg s.size f hf2).ex p W (by omega)))
 have hp:=opx_lt hO
 have HO:=hide hO
 replace HF:Hd (∀ gg W,Rs W gg s.size (begP s) → Calls Tryz.prog 23 #[.pointer (some ⟨gg,0,none⟩)] W (FunsAre gg s.size W (rdP s f))):=HF
 replace hlen:(rdP s f).1.length ≤ 100001:=by
  have:(rdP s f).1.length ≤ 0 + (begP s).ts.length:=hlen
  omega
 generalize rdP s f = q at *
 generalize begP s = st0 at *
 obtain ⟨fs,⟨ts,op,pl,er⟩⟩:=q
 clear hO hf he
 by_cases h0:er = 0
 ·subst h0
  cases ht:tooP fs
  ·go_enter Tryz.func11,Tryz.ntmps11
   go_wp2_with (first
    | (go_at_call 22;refine Calls.mono (unhide HBg) ?_;rintro e w1 ⟨gg,rfl,hgg,hs,hw⟩;have S1:=hide hs;have X1:=hide hw;have O1:=hide (Rs.mk hs ((unhide HO).ext hw) (by omega));clear hw hs)
    | (go_at_call 23;refine Calls.mono (unhide HF gg _ (unhide O1)) ?_;rintro e w2 ⟨a,cap,rfl,hcap,hfl,hs,hw⟩;have HTo:=hide (too_any fs a cap _ w2 hfl hcap hlen);have c3:w2.cell? ⟨gg,3,none⟩ = some (.int .i64 pl):=(by obtain ⟨T,h1,_⟩:=hs.ex;exact rowC h1 3 rfl);have c4:w2.cell? ⟨gg,4,none⟩ = some (.int .i64 0):=(by obtain ⟨T,h1,_⟩:=hs.ex;exact rowC h1 4 rfl);have FL:=hide hfl;have X2:=hide ((unhide X1).gr hw hgg);have hz2:w1.heap.size ≤ w2.heap.size:=hw.size;have hz1:w.heap.size ≤ w1.heap.size:=(unhide X1).le;clear hw hs hfl)
    | (go_at_call 24;refine Calls.mono (unhide HTo) ?_;rintro e w3 ⟨he,hw⟩;rw [ht] at he;obtain rfl:=he;have X3:=hide hw;clear hw))
   exact bodyPost_ret (v:=.tuple #[.slice a fs.length cap,.int .i64 0,.int .i64 0]) (by simp [results,Tryz.results11]) rfl ⟨(unhide X2).trans (unhide X3),Or.inr (Or.inr ⟨rfl,ht,a,cap,rfl,hcap,RepFL.to (fun b hb => ⟨⟨by have:=hb.1;omega,Nat.lt_of_lt_of_le hb.2 (unhide X3).le⟩,(unhide X3).block b hb.2⟩) (unhide FL)⟩)⟩
  ·go_enter Tryz.func11,Tryz.ntmps11
   go_wp2_with (first
    | (go_at_call 22;refine Calls.mono (unhide HBg) ?_;rintro e w1 ⟨gg,rfl,hgg,hs,hw⟩;have S1:=hide hs;have X1:=hide hw;have O1:=hide (Rs.mk hs ((unhide HO).ext hw) (by omega));clear hw hs)
    | (go_at_call 23;refine Calls.mono (unhide HF gg _ (unhide O1)) ?_;rintro e w2 ⟨a,cap,rfl,hcap,hfl,hs,hw⟩;have HTo:=hide (too_any fs a cap _ w2 hfl hcap hlen);have c3:w2.cell? ⟨gg,3,none⟩ = some (.int .i64 pl):=(by obtain ⟨T,h1,_⟩:=hs.ex;exact rowC h1 3 rfl);have c4:w2.cell? ⟨gg,4,none⟩ = some (.int .i64 0):=(by obtain ⟨T,h1,_⟩:=hs.ex;exact rowC h1 4 rfl);have FL:=hide hfl;have X2:=hide ((unhide X1).gr hw hgg);have hz2:w1.heap.size ≤ w2.heap.size:=hw.size;have hz1:w.heap.size ≤ w1.heap.size:=(unhide X1).le;clear hw hs hfl)
    | (go_at_call 24;refine Calls.mono (unhide HTo) ?_;rintro e w3 ⟨he,hw⟩;rw [ht] at he;obtain rfl:=he;have X3:=hide hw;clear hw))
   exact bodyPost_ret (v:=.tuple #[.slice none 0 0,.int .i64 0,.int .i64 65]) (by simp [results,Tryz.results11]) rfl ⟨(unhide X2).trans (unhide X3),Or.inr (Or.inl ⟨rfl,ht,rfl⟩)⟩
 ·have h1:(er == 0) = false:=by simpa using h0
  have h2:(er != 0) = true:=by simp [h0]
  have H0:=hide h0
  clear h0
  go_enter Tryz.func11,Tryz.ntmps11
  go_wp2_with (first
   | (go_at_call 22;refine Calls.mono (unhide HBg) ?_;rintro e w1 ⟨gg,rfl,hgg,hs,hw⟩;have S1:=hide hs;have X1:=hide hw;have O1:=hide (Rs.mk hs ((unhide HO).ext hw) (by omega));clear hw hs)
   | (go_at_call 23;refine Calls.mono (unhide HF gg _ (unhide O1)) ?_;rintro e w2 ⟨a,cap,rfl,hcap,hfl,hs,hw⟩;have HTo:=hide (too_any fs a cap _ w2 hfl hcap hlen);have c3:w2.cell? ⟨gg,3,none⟩ = some (.int .i64 pl):=(by obtain ⟨T,h1,_⟩:=hs.ex;exact rowC h1 3 rfl);have c4:w2.cell? ⟨gg,4,none⟩ = some (.int .i64 er):=(by obtain ⟨T,h1,_⟩:=hs.ex;exact rowC h1 4 rfl);have FL:=hide hfl;have X2:=hide ((unhide X1).gr hw hgg);have hz2:w1.heap.size ≤ w2.heap.size:=hw.size;have hz1:w.heap.size ≤ w1.heap.size:=(unhide X1).le;clear hw hs hfl))
  go_region
  go_wp2_with fail
  exact bodyPost_ret (v:=.tuple #[.slice none 0 0,.int .i64 pl,.int .i64 er]) (by simp [results,Tryz.results11]) rfl ⟨(unhide X2).trans (Ext.drew (Ext.refl _)),Or.inl ⟨unhide H0,rfl⟩⟩
end Go.Proofs.YtgkdmgndebifiaaGreatDoor
namespace Go.Proofs.YtgkdmgndebifiaaGreatDoor
open Go.RowKit
def InW (w:World):Nat → Prop:=fun b => b < w.heap.size
theorem RepN.inw {w w':World} {p:PN} {v:Value} (h:RepN w (InW w) p v) (k:Ext w w'):RepN w' (InW w') p v:=RepN.to (fun b hb => ⟨Nat.lt_of_lt_of_le hb k.size,k.block b hb⟩) p v h
theorem RepNL.inw {w w':World} {l:List PN} {a:Option Addr} (h:RepNL w (InW w) l a) (k:Ext w w'):RepNL w' (InW w') l a:=RepNL.to (fun b hb => ⟨Nat.lt_of_lt_of_le hb k.size,k.block b hb⟩) l a h
theorem repNL_at {w:World} {F:Nat → Prop}:∀ {l:List PN} {a:Option Addr},RepNL w F l a → ∀ (i:Nat) (p:PN),l[i]? = some p → ∃ b off c0 c1 c2 c3 c4,a = some ⟨b,off,none⟩ ∧ F b ∧ RepN w F p (.agg #[c0,c1,c2,c3,c4]) ∧
   w.cell? ⟨b,off + i * 5,none⟩ = some c0 ∧ w.cell? ⟨b,off + i * 5 + 1,none⟩ = some c1 ∧ w.cell? ⟨b,off + i * 5 + 2,none⟩ = some c2 ∧ w.cell? ⟨b,off + i * 5 + 3,none⟩ = some c3 ∧ w.cell? ⟨b,off + i * 5 + 4,none⟩ = some c4:=by
 intro l
 induction l with
 | nil => intro a _ i p h;simp at h
 | cons x xs ih =>
  intro a h i p hp
  rw [RepNL] at h
  obtain ⟨b,off,c0,c1,c2,c3,c4,rfl,hf,hr,h0,h1,h2,h3,h4,hrest⟩:=h
  cases i with
  | zero =>
   simp at hp
   subst hp
   refine ⟨b,off,c0,c1,c2,c3,c4,rfl,hf,hr,?_⟩
   rw [Nat.zero_mul,Nat.add_zero]
   exact ⟨h0,h1,h2,h3,h4⟩
  | succ j =>
   simp at hp
   obtain ⟨b',off',d0,d1,d2,d3,d4,he,r⟩:=ih hrest j p hp
   injection he with he
   injection he with e1 e2
   subst e1 e2
   refine ⟨b,off,d0,d1,d2,d3,d4,rfl,?_⟩
   rw [show off + (j + 1) * 5 = off + 5 + j * 5 by omega]
   exact r
abbrev nodW (k o:Int) (s:ByteArray) (n:Int) (a:Option Addr) (m c:Nat):Obj:=.cells #[.int .i64 k,.int .i64 o,.string s,.int .i64 n,.slice a m c] 29 (0,0)
theorem rowF_at {w:World} {F:Nat → Prop}:∀ {ps:List PFn} {xs:List Value},RowF w F ps xs → ∀ (i:Nat) (p:PFn),ps[i]? = some p →
  ∃ pa pc a cap,(∀ (r:Nat) u,(fnC p pa pc a cap)[r]? = some u → xs[i * 7 + r]? = some u) ∧ p.ps.length ≤ pc ∧ RepS w F p.ps pa ∧ p.bd.l.length ≤ cap ∧ RepNL w F p.bd.l a:=by
 intro ps
 induction ps with
 | nil => intro xs _ i p h;simp at h
 | cons q ps ih =>
  intro xs hx i p hp
  obtain ⟨pa,pc,a,cap,rest,rfl,h1,h2,h3,h4,hr⟩:=hx
  cases i with
  | zero =>
   simp at hp
   subst hp
   refine ⟨pa,pc,a,cap,fun r u hu => ?_,h1,h2,h3,h4⟩
   rw [Nat.zero_mul,Nat.zero_add]
   rw [List.getElem?_append_left (List.getElem?_eq_some_iff.1 hu).1]
   exact hu
  | succ j =>
   simp at hp
   obtain ⟨pa',pc',a',cap',hc,r⟩:=ih hr j p hp
   refine ⟨pa',pc',a',cap',fun r u hu => ?_,r⟩
   rw [List.getElem?_append_right (by simp;omega)]
   rw [← hc r u hu]
   congr 1
   simp
   omega
theorem RepS.at {w:World} {F:Nat → Prop} {ps:List ByteArray} {a:Option Addr} (h:RepS w F ps a) (i:Nat) (s:ByteArray) (hs:ps[i]? = some s):∃ b off,a = some ⟨b,off,none⟩ ∧ F b ∧ w.cell? ⟨b,off + i,none⟩ = some (.string s):=by
 rcases h with rfl | ⟨b,off,rfl,hb,hc⟩
 ·simp at hs
 ·exact ⟨b,off,rfl,hb,hc i _ (by rw [List.getElem?_map,hs];rfl)⟩
theorem RepS.inw {w w':World} {l:List ByteArray} {a:Option Addr} (h:RepS w (InW w) l a) (k:Ext w w'):RepS w' (InW w') l a:=RepS.to (fun b hb => ⟨Nat.lt_of_lt_of_le hb k.size,k.block b hb⟩) h
theorem RepFL.inw {w w':World} {l:List PFn} {a:Option Addr} (h:RepFL w (InW w) l a) (k:Ext w w'):RepFL w' (InW w') l a:=RepFL.to (fun b hb => ⟨Nat.lt_of_lt_of_le hb k.size,k.block b hb⟩) h
theorem RepFL.at {w:World} {F:Nat → Prop} {ps:List PFn} {a:Option Addr} (h:RepFL w F ps a) (i:Nat) (p:PFn) (hp:ps[i]? = some p) :
  ∃ b off pa pc qa qc,a = some ⟨b,off,none⟩ ∧ F b ∧ (∀ (r:Nat) u,(fnC p pa pc qa qc)[r]? = some u → w.cell? ⟨b,off + i * 7 + r,none⟩ = some u) ∧ p.ps.length ≤ pc ∧ RepS w F p.ps pa ∧ p.bd.l.length ≤ qc ∧ RepNL w F p.bd.l qa:=by
 rcases h with rfl | ⟨b,off,xs,rfl,hb,hrow,hc⟩
 ·simp at hp
 ·obtain ⟨pa,pc,qa,qc,hcs,h1,hS,h3,hL⟩:=rowF_at hrow i p hp
  exact ⟨b,off,pa,pc,qa,qc,rfl,hb,fun r u hu => by rw [Nat.add_assoc];exact hc _ _ (hcs r u hu),h1,hS,h3,hL⟩
end Go.Proofs.YtgkdmgndebifiaaGreatDoor
namespace Go.Proofs.YtgkdmgndebifiaaGreatDoor
open Go.RowKit
def RSameOf (p:PN):Prop:=∀ (va vb:Value) (w:World),RepN w (InW w) p va → RepN w (InW w) p vb → Calls Tryz.prog 21 #[va,vb] w fun e w' => e = .returned (.bool true) ∧ Ext w w'
theorem enterRSame (v v':Value) (w:World):(callFunc 21 #[v,v']).run Tryz.prog w = .ok (.enter 21 #[v,v']) w:=by kernel_rfl
end Go.Proofs.YtgkdmgndebifiaaGreatDoor
namespace Go.Proofs.YtgkdmgndebifiaaGreatDoor
open Go.RowKit
def RTold (q:PN × PS) (w:World) (e:Ending) (w':World):Prop :=
 Ext w w' ∧ ((q.2.e ≠ 0 ∧ e = .returned (.agg #[.slice none 0 0,.int .i64 0,.int .i64 0,.string ⟨#[]⟩,.int .i64 0,.slice none 0 0,.int .i64 q.2.pl,.int .i64 q.2.e])) ∨
  (q.2.e = 0 ∧ ∃ k o s n a l cap,e = .returned (.agg #[.slice none 0 0,.int .i64 k,.int .i64 o,.string s,.int .i64 n,.slice a l cap,.int .i64 0,.int .i64 0]) ∧ RepN w' (InW w') q.1 (.agg #[.int .i64 k,.int .i64 o,.string s,.int .i64 n,.slice a l cap])))
abbrev tolV (L:Value) (k o:Int) (s:ByteArray) (n:Int) (l:Value) (at_ e:Int):Value:=.agg #[L,.int .i64 k,.int .i64 o,.string s,.int .i64 n,l,.int .i64 at_,.int .i64 e]
abbrev tolO (L:Value) (k o:Int) (s:ByteArray) (n:Int) (l:Value) (at_ e:Int):Obj:=.cells #[L,.int .i64 k,.int .i64 o,.string s,.int .i64 n,l,.int .i64 at_,.int .i64 e] 31 (0,0)
abbrev set8 (w:World) (b:Nat) (L:Value) (k o:Int) (s:ByteArray) (n:Int) (l:Value) (at_ e:Int):World:=((((((((w).setCell ⟨b,0,none⟩ L).setCell ⟨b,1,none⟩ (.int .i64 k)).setCell ⟨b,2,none⟩ (.int .i64 o)).setCell ⟨b,3,none⟩ (.string s)).setCell ⟨b,4,none⟩ (.int .i64 n)).setCell ⟨b,5,none⟩ l).setCell ⟨b,6,none⟩ (.int .i64 at_)).setCell ⟨b,7,none⟩ (.int .i64 e)
theorem set8_row {w:World} {b:Nat} {c0 c1 c2 c3 c4 c5 c6 c7:Value} (h:w.heap[b]? = some (.cells #[c0,c1,c2,c3,c4,c5,c6,c7] 31 (0,0))) (L:Value) (k o:Int) (s:ByteArray) (n:Int) (l:Value) (at_ e:Int):(set8 w b L k o s n l at_ e).heap[b]? = some (tolO L k o s n l at_ e):=by
 have h7:=row_set (row_set (row_set (row_set (row_set (row_set (row_set (row_set h 0 L) 1 (.int .i64 k)) 2 (.int .i64 o)) 3 (.string s)) 4 (.int .i64 n)) 5 l) 6 (.int .i64 at_)) 7 (.int .i64 e)
 simpa only [List.setIfInBounds_toArray,List.set_cons_zero,List.set_cons_succ] using h7
theorem set8_block {w:World} {b x:Nat} (hx:x ≠ b) (L:Value) (k o:Int) (s:ByteArray) (n:Int) (l:Value) (at_ e:Int):(set8 w b L k o s n l at_ e).heap[x]? = w.heap[x]?:=by
 rw [Below.heap_setCell _ _ _ _ hx,Below.heap_setCell _ _ _ _ hx,Below.heap_setCell _ _ _ _ hx,Below.heap_setCell _ _ _ _ hx,Below.heap_setCell _ _ _ _ hx,Below.heap_setCell _ _ _ _ hx,Below.heap_setCell _ _ _ _ hx,Below.heap_setCell _ _ _ _ hx]
theorem set8_ext {w0 w:World} (h:Ext w0 w) {b:Nat} (hb:w0.heap.size ≤ b) (L:Value) (k o:Int) (s:ByteArray) (n:Int) (l:Value) (at_ e:Int):Ext w0 (set8 w b L k o s n l at_ e) :=
 (((((((h.set (p:=⟨b,0,none⟩) hb _).set (p:=⟨b,1,none⟩) hb _).set (p:=⟨b,2,none⟩) hb _).set (p:=⟨b,3,none⟩) hb _).set (p:=⟨b,4,none⟩) hb _).set (p:=⟨b,5,none⟩) hb _).set (p:=⟨b,6,none⟩) hb _).set (p:=⟨b,7,none⟩) hb _
theorem set8_size (w:World) (b:Nat) (L:Value) (k o:Int) (s:ByteArray) (n:Int) (l:Value) (at_ e:Int):(set8 w b L k o s n l at_ e).heap.size = w.heap.size:=by simp [World.setCell]
theorem res_told {fn:Func} {p:Tmp} (h:fn.results = #[.cell p 31]) (tmps:Array Value) (w:World) (b:Nat) (L:Value) (k o:Int) (s:ByteArray) (n:Int) (l:Value) (at_ e:Int) (hL:L.oneCell' = true) (hl:l.oneCell' = true) (hp:tmps.getD p undef = .pointer (some ⟨b,0,none⟩)) (hg:w.heap[b]? = some (tolO L k o s n l at_ e)) :
  (results fn tmps).run Tryz.prog w = .ok (tolV L k o s n l at_ e) w :=
 results_cell_row h tmps w b _ _ _ _ hp hg Tryz.underlying31 rfl (by kernel_rfl)
theorem nrm_in {Q:Exit → Act → World → Prop} {a:Act} {w:World} (h:Q .normal a w):Nrm Q .normal a w:=h
theorem Sl.ownR {w1:World} {base:Nat} {v:Value} {ts:List Tk} (hown:w1.ownsRow base 88 4 v ts.length (ts.flatMap tkC)):∃ a cap,v = .slice a ts.length cap ∧ ∀ W g,Ext w1 W → w1.heap.size ≤ g → Sl W g (.slice a ts.length cap) ts:=by
 obtain ⟨hlen,⟨e,h0⟩ | ⟨b,cap,cur,rfl,hb,hrow,hc,hcm,_⟩⟩:=id hown
 ·have:ts = []:=List.length_eq_zero_iff.1 h0
  subst this
  exact ⟨none,0,e,fun W g _ _ => slNil _ _⟩
 ·exact ⟨_,cap,rfl,fun W g x hg => ⟨_,cap,rfl,hc,by unfold maxLen at hcm;omega,Or.inr ⟨b,0,rfl,Nat.lt_of_lt_of_le (Array.getElem?_eq_some_iff.1 hrow).1 hg,fun j u hu => x.cell (cells_own hown j u hu)⟩⟩⟩
end Go.Proofs.YtgkdmgndebifiaaGreatDoor
