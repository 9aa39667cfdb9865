/- A reader that has erred stays as it is;one that goes on leaves open what was open. · The words of a text,read off what is left of it: the same as lexF,in fewer steps. · The document's own reader: where it stands,and its small steps. · The document's own reader: it fails,takes a word,wants one,opens. -/
import Derived.Test.YtgkdmgndebifiaaGreatDoorZd6
import Derived.Test.YtgkdmgndebifiaaGreatDoorZd2
import Derived.Test.YtgkdmgndebifiaaGreatDoorZd4
set_option linter.unusedSimpArgs false
set_option linter.unusedVariables false
set_option maxRecDepth 10000
namespace Go.Proofs.YtgkdmgndebifiaaGreatDoor
open Go.RowKit
structure Nv (st:PS):Prop where
 rng:st.e = 0 → 0 ≤ st.op ∧ st.op ≤ 24
 nil:st.e ≠ 0 → st.ts = []
structure Kp (st r:PS):Prop where
 bad:st.e ≠ 0 → r.e = st.e ∧ r.pl = st.pl
 ok:r.e = 0 → st.e = 0 ∧ r.op = st.op
 nil:r.e ≠ 0 → r.ts = []
theorem Kp.nv {st r:PS} (h:Kp st r) (n:Nv st):Nv r:=⟨fun e => by rw [(h.ok e).2];exact n.rng (h.ok e).1,h.nil⟩
theorem Kp.refl {st:PS} (n:Nv st):Kp st st:=⟨fun _ => ⟨rfl,rfl⟩,fun e => ⟨e,rfl⟩,n.nil⟩
theorem Kp.trans {a b c:PS} (h:Kp a b) (k:Kp b c):Kp a c :=
 ⟨fun e => by
  obtain ⟨h1,h2⟩:=h.bad e
  have h3:=k.bad (by rw [h1];exact e)
  exact ⟨h3.1.trans h1,h3.2.trans h2⟩,fun e => ⟨(h.ok (k.ok e).1).1,(k.ok e).2.trans (h.ok (k.ok e).1).2⟩,k.nil⟩
theorem fail_kp (st:PS) (len:Nat) {c:Int} (hc:c ≠ 0):Kp st (st.fail len c):=by
 unfold PS.fail
 split
 ·rename_i h
  exact ⟨fun e => absurd h e,fun e => absurd e hc,fun _ => rfl⟩
 ·rename_i h
  exact ⟨fun _ => ⟨rfl,rfl⟩,fun e => absurd e h,fun _ => rfl⟩
theorem next_kp {st:PS} (n:Nv st):Kp st st.next :=
 ⟨fun _ => ⟨rfl,rfl⟩,fun e => ⟨e,rfl⟩,fun e => by show st.ts.tail = [];rw [n.nil e];rfl⟩
theorem psign_kp {st:PS} (n:Nv st) (len:Nat) (s:ByteArray):Kp st (st.sign len s):=by
 unfold PS.sign
 split
 ·exact next_kp n
 ·exact fail_kp _ _ (by decide)
theorem pword_kp {st:PS} (n:Nv st) (len:Nat) (s:ByteArray):Kp st (st.word len s):=by
 unfold PS.word
 split
 ·exact next_kp n
 ·exact fail_kp _ _ (by decide)
theorem name_kp {st:PS} (n:Nv st) (len:Nat):Kp st (st.name len).2:=by
 unfold PS.name
 split
 ·exact next_kp n
 ·exact fail_kp _ _ (by decide)
theorem takeS_kp {st:PS} (n:Nv st) (s:ByteArray):Kp st (st.takeS s).2:=by
 unfold PS.takeS
 split
 ·exact next_kp n
 ·exact Kp.refl n
theorem takeO_kp {st:PS} (n:Nv st) (lv:Int):Kp st (st.takeO lv).2:=by
 unfold PS.takeO
 cases st.oper lv with
 | none => exact Kp.refl n
 | some o => exact next_kp n
theorem enter_nv {st:PS} (n:Nv st) (len:Nat):Nv (st.enter len):=by
 unfold PS.enter
 by_cases h0:st.e = 0
 ·obtain ⟨h1,h2⟩:=n.rng h0
  split
  ·exact ⟨fun e => absurd e (by unfold PS.fail PS.up;simp [h0]),fun _ => fail_ts _ _ _⟩
  ·rename_i h
   refine ⟨fun _ => ?_,fun e => absurd h0 e⟩
   have:st.up.op = wrap64 (st.op + 1):=rfl
   rw [this]
   unfold wrap64 at *
   omega
 ·split
  ·exact ⟨fun e => absurd e (by unfold PS.fail PS.up;simp [h0]),fun _ => fail_ts _ _ _⟩
  ·exact ⟨fun e => absurd e h0,fun _ => n.nil h0⟩
theorem enter_bad {st:PS} (len:Nat) (h0:st.e ≠ 0):(st.enter len).e = st.e ∧ (st.enter len).pl = st.pl:=by
 unfold PS.enter
 split
 ·unfold PS.fail PS.up
  simp [h0]
 ·exact ⟨rfl,rfl⟩
theorem enter_ok {st:PS} {len:Nat} (h:(st.enter len).e = 0):st.e = 0 ∧ st.enter len = st.up:=by
 by_cases h0:st.e = 0
 ·refine ⟨h0,?_⟩
  unfold PS.enter at *
  split
  ·rename_i h2
   rw [if_pos h2] at h
   unfold PS.fail PS.up at h
   simp [h0] at h
  ·rfl
 ·rw [(enter_bad len h0).1] at h
  exact absurd h h0
theorem br_kp {st r:PS} (n:Nv st) {len:Nat} (h:Kp (st.enter len) r):Kp st r.leave:=by
 refine ⟨fun e => ?_,fun e => ?_,fun e => h.nil e⟩
 ·obtain ⟨h1,h2⟩:=enter_bad len e
  obtain ⟨h3,h4⟩:=h.bad (by rw [h1];exact e)
  exact ⟨h3.trans h1,h4.trans h2⟩
 ·have h1:=h.ok e
  obtain ⟨h2,h3⟩:=enter_ok h1.1
  obtain ⟨h4,h5⟩:=n.rng h2
  refine ⟨h2,?_⟩
  show wrap64 (r.op - 1) = _
  rw [h1.2,h3]
  show wrap64 (wrap64 (st.op + 1) - 1) = _
  unfold wrap64
  omega
abbrev GoodR (f:Rdr):Prop:=∀ st,Nv st → Kp st (f st).2
theorem more_kp {len:Nat} {ex:Rdr} (h:GoodR ex):∀ (f:Nat) (acc:List PN) (st:PS),Nv st → Kp st (moreP len ex f acc st).2
 | 0,acc,st,n => Kp.refl n
 | f + 1,acc,st,n => by
  rw [moreP]
  have h1:=takeS_kp n ⟨#[44]⟩
  cases e:st.takeS ⟨#[44]⟩ with
  | mk b s1 =>
   rw [e] at h1
   cases b
   ·exact h1
   ·have h2:=h s1 (h1.nv n)
    exact h1.trans (h2.trans (more_kp h f _ _ (h2.nv (h1.nv n))))
theorem ops_kp {len:Nat} {ex:Rdr} (h:GoodR ex) (f:Nat) (c:ByteArray) (st:PS) (n:Nv st):Kp st (opsP len ex f c st).2:=by
 unfold opsP
 have h1:=takeS_kp n c
 cases e:st.takeS c with
 | mk b s1 =>
  rw [e] at h1
  cases b
  ·have h2:=h s1 (h1.nv n)
   have n2:=h2.nv (h1.nv n)
   have h3:=more_kp (len:=len) h f [(ex s1).1] _ n2
   exact h1.trans (h2.trans (h3.trans (psign_kp (h3.nv n2) len c)))
  ·exact h1
theorem lit_kp (len:Nat):GoodR (litP len):=by
 intro st n
 unfold litP
 split
 ·exact next_kp n
 split
 ·exact next_kp n
 split
 ·exact next_kp n
 split
 ·exact next_kp n
 ·exact fail_kp _ _ (by decide)
theorem list_kp {len:Nat} {ex:Rdr} (h:GoodR ex) (f:Nat):GoodR (listP len ex f):=fun st n =>
 br_kp n (by
  have n1:=enter_nv n len
  have h1:=psign_kp n1 len ⟨#[91]⟩
  exact h1.trans (ops_kp h f _ _ (h1.nv n1)))
theorem call_kp {len:Nat} {ex:Rdr} (h:GoodR ex) (f:Nat):GoodR (callP len ex f):=fun st n =>
 br_kp n (by
  have n1:=enter_nv n len
  have h0:=name_kp n1 len
  have n2:=h0.nv n1
  have h1:=psign_kp n2 len ⟨#[40]⟩
  exact h0.trans (h1.trans (ops_kp h f _ _ (h1.nv n2))))
theorem inBr_kp {len:Nat} {ex:Rdr} (h:GoodR ex) (c:ByteArray):GoodR (inBrP len ex c):=fun st n =>
 br_kp n (by
  have n1:=enter_nv n len
  have h0:=next_kp n1
  have n2:=h0.nv n1
  have h1:=h _ n2
  exact h0.trans (h1.trans (psign_kp (h1.nv n2) len c)))
theorem sgl_kp {len:Nat} {ex:Rdr} (h:GoodR ex) (f:Nat):GoodR (sglP len ex f):=by
 intro st n
 unfold sglP
 split
 ·exact inBr_kp h _ _ n
 split
 ·exact list_kp h _ _ n
 split
 ·exact next_kp n
 split
 ·exact call_kp h _ _ n
 ·exact lit_kp _ _ n
theorem ixLoop_kp {len:Nat} {ex:Rdr} (h:GoodR ex):∀ (f:Nat) (p:PN) (st:PS),Nv st → Kp st (ixLoopP len ex f p st).2
 | 0,p,st,n => Kp.refl n
 | f + 1,p,st,n => by
  rw [ixLoopP]
  cases st.oper 7 with
  | none => exact Kp.refl n
  | some o =>
   have h1:=inBr_kp (len:=len) h ⟨#[93]⟩ st n
   exact h1.trans (ixLoop_kp h f _ _ (h1.nv n))
theorem idx_kp {len:Nat} {ex:Rdr} (h:GoodR ex) (f:Nat):GoodR (idxP len ex f):=fun st n =>
 (sgl_kp h f st n).trans (ixLoop_kp h f _ _ ((sgl_kp h f st n).nv n))
theorem sgn_kp {len:Nat} {sg ex:Rdr} (hs:GoodR sg) (h:GoodR ex) (f:Nat):GoodR (sgnP len sg ex f):=by
 intro st n
 unfold sgnP
 cases st.oper 6 with
 | none => exact idx_kp h f st n
 | some o =>
  refine br_kp (len:=len) n ?_
  have n1:=enter_nv n len
  have h0:=next_kp n1
  exact h0.trans (hs _ (h0.nv n1))
theorem loop_kp {lv:Int} {sub:Rdr} (h:GoodR sub):∀ (f:Nat) (p:PN) (st:PS),Nv st → Kp st (loopP lv sub f p st).2
 | 0,p,st,n => Kp.refl n
 | f + 1,p,st,n => by
  rw [loopP]
  have h1:=takeO_kp n lv
  cases e:st.takeO lv with
  | mk b s1 =>
   rw [e] at h1
   cases b
   ·exact h1
   ·have h2:=h s1 (h1.nv n)
    exact h1.trans (h2.trans (loop_kp h f _ _ (h2.nv (h1.nv n))))
theorem lev_kp {lv:Int} {sub:Rdr} (h:GoodR sub) (f:Nat):GoodR (levP lv sub f):=fun st n => (h st n).trans (loop_kp h f _ _ ((h st n).nv n))
theorem cmp_kp {sub:Rdr} (h:GoodR sub):GoodR (cmpP sub):=by
 intro st n
 unfold cmpP
 have h0:=h st n
 have n0:=h0.nv n
 have h1:=takeO_kp n0 3
 cases e:(sub st).2.takeO 3 with
 | mk b s1 =>
  rw [e] at h1
  cases b
  ·exact h0.trans h1
  ·exact h0.trans (h1.trans (h s1 (h1.nv n0)))
theorem prd_kp {sg:Rdr} (h:GoodR sg) (f:Nat):GoodR (prdP sg f):=lev_kp h f
theorem sum_kp {sg:Rdr} (h:GoodR sg) (f:Nat):GoodR (sumP sg f):=lev_kp (prd_kp h f) f
theorem bot_kp {sg:Rdr} (h:GoodR sg) (f:Nat):GoodR (botP sg f):=lev_kp (cmp_kp (sum_kp h f)) f
theorem or_kp {sg:Rdr} (h:GoodR sg) (f:Nat):GoodR (orP sg f):=lev_kp (bot_kp h f) f
theorem both_kp (len:Nat):∀ f,GoodR (bothP len f).1 ∧ GoodR (bothP len f).2
 | 0 => ⟨fun _ n => Kp.refl n,fun _ n => Kp.refl n⟩
 | f + 1 => by
  obtain ⟨h1,h2⟩:=both_kp len f
  rw [bothP]
  exact ⟨sgn_kp h1 h2 _,or_kp (sgn_kp h1 h2 _) _⟩
theorem ex_kp (len f:Nat):GoodR (exP len f):=(both_kp len f).2
end Go.Proofs.YtgkdmgndebifiaaGreatDoor
namespace Go.Proofs.YtgkdmgndebifiaaGreatDoor
open Go.RowKit
def numL (l:List UInt8) (d:Nat):Option (Int × List UInt8 × Int × Nat) :=
 if 9223372036854775807 < dv 0 (l.take d) then none
 else if l[d]? == some 105 then (if (l[d + 1]?.map nm).getD false then none else some (4,[],dv 0 (l.take d),d + 1))
 else (if (l[d]?.map nm).getD false then none else some (3,[],dv 0 (l.take d),d))
def nameL (l:List UInt8) (r:Nat):Option (Int × List UInt8 × Int × Nat) :=
 if 16 < r then none else some (if wordL (l.take r) then 2 else 1,l.take r,0,r)
def textL (f:Nat) (l:List UInt8):Option (Int × List UInt8 × Int × Nat):=(txF f l).map fun p => (5,p.1,0,1 + p.2)
def opLL (l:List UInt8) (r:Nat):Option (Int × List UInt8 × Int × Nat):=if r = 0 then none else some (6,l.take r,0,r)
def tokL (f:Nat):List UInt8 → Option (Int × List UInt8 × Int × Nat)
 | [] => none
 | c :: r => if dg c then numL (c :: r) (run dg (c :: r)) else if nm c then nameL (c :: r) (run nm (c :: r)) else if c.toNat = 34 then textL f r else opLL (c :: r) (opL (c :: r))
def upT (o:Nat) (q:Int × List UInt8 × Int × Nat):Int × ByteArray × Int × Nat:=(q.1,⟨q.2.1.toArray⟩,q.2.2.1,o + q.2.2.2)
theorem ext_mk (s:ByteArray) (o r:Nat):s.extract o (o + r) = ⟨(((L s).drop o).take r).toArray⟩:=by
 apply L_inj
 rw [L_extract,Nat.add_sub_cancel_left]
 exact (L_mk _).symm
theorem tokT_L (s:ByteArray) (o:Nat):tokT s o = (tokL (s.size + 1) ((L s).drop o)).map (upT o):=by
 unfold tokT
 have hd:(L s)[o]? = ((L s).drop o)[0]?:=by rw [List.getElem?_drop];rfl
 have ht:(L s).drop (o + 1) = ((L s).drop o).drop 1:=by rw [List.drop_drop]
 have hg:∀ k,(L s)[o + k]? = ((L s).drop o)[k]?:=fun k => by rw [List.getElem?_drop]
 have hx:=ext_mk s o
 unfold numT nameT textT opT nv isI nmAt nd
 rw [hd,ht,hg,Nat.add_assoc,hg,hx,hx]
 generalize (L s).drop o = l
 cases l with
 | nil => rfl
 | cons c r =>
  show (if dg c = true then _ else _) = _
  rw [tokL]
  by_cases h1:dg c = true
  ·rw [if_pos h1,if_pos h1]
   unfold numL
   (repeat' split) <;> simp_all [upT] <;> rfl
  ·rw [if_neg h1,if_neg h1]
   by_cases h2:nm c = true
   ·rw [if_pos h2,if_pos h2]
    unfold nameL
    split <;> simp_all [upT]
   ·rw [if_neg h2,if_neg h2]
    by_cases h3:c.toNat = 34
    ·rw [if_pos h3,if_pos h3]
     unfold textL
     rw [List.drop_succ_cons,List.drop_zero,Option.map_map]
     congr 1
     funext p
     simp [upT,Nat.add_assoc]
    ·rw [if_neg h3,if_neg h3]
     unfold opLL
     split <;> simp_all [upT]
def lexL (F:Nat):Nat → List UInt8 → Nat → List Tk × Option Nat
 | 0,_,_ => ([],some 0)
 | f + 1,l,o => match l.drop (skp false l) with
  | [] => ([],none)
  | c :: r => match tokL F (c :: r) with
   | none => ([],some (o + skp false l))
   | some (k,t,n,m) => (⟨k,⟨t.toArray⟩,n,o + skp false l⟩ :: (lexL F f ((c :: r).drop m) (o + skp false l + m)).1,(lexL F f ((c :: r).drop m) (o + skp false l + m)).2)
theorem lexF_L (s:ByteArray):∀ (f o:Nat),o ≤ s.size → lexF f s o = lexL (s.size + 1) f ((L s).drop o) o:=by
 intro f
 induction f with
 | zero => intro o _;rfl
 | succ f ih =>
  intro o ho
  rw [lexF,lexL]
  have hdd:((L s).drop o).drop (skp false ((L s).drop o)) = (L s).drop (o + skp false ((L s).drop o)):=by rw [List.drop_drop]
  have hsk:skp false ((L s).drop o) ≤ s.size - o:=by
   have:=skp_le ((L s).drop o) false
   rw [List.length_drop,L_len] at this
   exact this
  generalize skp false ((L s).drop o) = k at *
  rw [hdd,tokT_L]
  by_cases hz:s.size ≤ o + k
  ·rw [if_pos hz,L_end s _ hz]
  ·rw [if_neg hz,L_drop s (o + k) (by omega)]
   have hdr:=L_drop s (o + k) (by omega)
   show (match Option.map (upT (o + k)) (tokL (s.size + 1) (s[o + k] :: (L s).drop (o + k + 1))) with | none => _ | some (k_1,t,n,m) => _) = (match tokL (s.size + 1) (s[o + k] :: (L s).drop (o + k + 1)) with | none => _ | some (k_1,t,n,m) => _)
   rw [← hdr]
   cases ht:tokL (s.size + 1) ((L s).drop (o + k)) with
   | none => rfl
   | some q =>
    obtain ⟨a,t,n,m⟩:=q
    have hm:o + k + m ≤ s.size:=(tok_lt s (o + k) a ⟨t.toArray⟩ n (o + k + m) (by rw [tokT_L,ht];rfl)).2
    show (_ :: (lexF f s (o + k + m)).1,(lexF f s (o + k + m)).2) = _
    rw [ih _ hm]
    simp only [List.drop_drop]
end Go.Proofs.YtgkdmgndebifiaaGreatDoor
namespace Go.Proofs.YtgkdmgndebifiaaGreatDoor
open Go.RowKit
def TkOk (t:Tk):Prop:=(t.k = 2 → wordL (L t.t) = true) ∧ (t.k = 6 → (o2 (L t.t) || o1 (L t.t)) = true)
theorem tokL_ok (F:Nat) (l:List UInt8) (k:Int) (t:List UInt8) (n:Int) (m:Nat) (h:tokL F l = some (k,t,n,m)):(k = 2 → wordL t = true) ∧ (k = 6 → (o2 t || o1 t) = true):=by
 cases l with
 | nil => cases h
 | cons c r =>
  rw [tokL] at h
  split at h
  ·unfold numL at h
   (repeat' split at h) <;> first | cases h;done | (cases h;exact ⟨fun e => absurd e (by decide),fun e => absurd e (by decide)⟩)
  split at h
  ·unfold nameL at h
   split at h
   ·cases h
   ·injection h with h
    injection h with h1 h2
    injection h2 with h2 h3
    subst h1 h2
    refine ⟨fun e => ?_,fun e => ?_⟩
    ·split at e
     ·assumption
     ·exact absurd e (by decide)
    ·split at e <;> exact absurd e (by decide)
  split at h
  ·unfold textL at h
   obtain ⟨p,_,hp⟩:=Option.map_eq_some_iff.1 h
   cases hp
   exact ⟨fun e => absurd e (by decide),fun e => absurd e (by decide)⟩
  ·unfold opLL at h
   split at h
   ·cases h
   ·rename_i h0
    injection h with h
    injection h with h1 h2
    injection h2 with h2 h3
    subst h1 h2
    refine ⟨fun e => absurd e (by decide),fun _ => ?_⟩
    unfold opL at *
    split
    ·rename_i h2;rw [h2];rfl
    ·rename_i h2
     rw [if_neg h2] at h0
     split
     ·rename_i h3;rw [h3,Bool.or_true]
     ·rename_i h3;rw [if_neg h3] at h0;exact absurd rfl h0
theorem lexL_ok (F:Nat):∀ (f:Nat) (l:List UInt8) (o:Nat),∀ t ∈ (lexL F f l o).1,TkOk t:=by
 intro f
 induction f with
 | zero => intro l o t h;simp [lexL] at h
 | succ f ih =>
  intro l o t h
  rw [lexL] at h
  split at h
  ·simp at h
  ·split at h
   ·simp at h
   ·rename_i c r _ k tx n m ht
    rcases List.mem_cons.1 h with rfl | h
    ·exact tokL_ok F _ k tx n m ht
    ·exact ih _ _ t h
theorem lexF_ok (s:ByteArray) (f:Nat):∀ t ∈ (lexF f s 0).1,TkOk t:=by
 rw [lexF_L _ _ _ (Nat.zero_le _)]
 exact lexL_ok _ _ _ _
abbrev rpO (V:Value) (i:Nat) (e pl dp:Int) (len:Nat) (wd:Int):Obj:=.cells #[V,.int .i64 (i:Int),.int .i64 e,.int .i64 pl,.int .i64 dp,.int .i64 (len:Int),.int .i64 wd] 54 (0,0)
structure Rp (w:World) (g len:Nat) (T:List Tk) (wd:Int) (st:PS):Prop where
 ex:∃ V i pl dp,w.heap[g]? = some (rpO V i st.e pl dp len wd) ∧ Sl w g V T ∧ i ≤ T.length ∧ (st.e = 0 → T.drop i = st.ts ∧ dp = st.op) ∧ (st.e ≠ 0 → pl = st.pl)
 nv:Nv st
 tk:∀ t ∈ T,TkOk t
 tl:T.length ≤ 4001
theorem rp_c {w:World} {g:Nat} {V:Value} {i:Nat} {e pl dp:Int} {len:Nat} {wd:Int} (h:w.heap[g]? = some (rpO V i e pl dp len wd)):w.cell? ⟨g,0,none⟩ = some V ∧ w.cell? ⟨g,1,none⟩ = some (.int .i64 (i:Int)) ∧ w.cell? ⟨g,2,none⟩ = some (.int .i64 e) ∧ w.cell? ⟨g,3,none⟩ = some (.int .i64 pl) ∧ w.cell? ⟨g,4,none⟩ = some (.int .i64 dp) ∧ w.cell? ⟨g,5,none⟩ = some (.int .i64 (len:Int)) ∧ w.cell? ⟨g,6,none⟩ = some (.int .i64 wd) ∧ ∀ i,w.frozen? ⟨g,i,none⟩ = false :=
 ⟨rowC h 0 rfl,rowC h 1 rfl,rowC h 2 rfl,rowC h 3 rfl,rowC h 4 rfl,rowC h 5 rfl,rowC h 6 rfl,rowF h⟩
variable {w w':World} {g len:Nat} {T:List Tk} {wd:Int} {st:PS}
theorem Rp.lt (h:Rp w g len T wd st):g < w.heap.size:=by
 obtain ⟨V,i,pl,dp,h1,_⟩:=h.ex
 exact (Array.getElem?_eq_some_iff.1 h1).1
theorem Rp.gr (h:Rp w g len T wd st) (k:Gr g w w') (hg:w'.heap[g]? = w.heap[g]?):Rp w' g len T wd st:=by
 obtain ⟨V,i,pl,dp,h1,h2,h3⟩:=h.ex
 exact ⟨⟨V,i,pl,dp,hg.trans h1,h2.on k,h3⟩,h.nv,h.tk,h.tl⟩
theorem Rp.ext (h:Rp w g len T wd st) (k:Ext w w'):Rp w' g len T wd st:=h.gr (Gr.of k) (k.block g h.lt)
theorem Rp.set (h:Rp w g len T wd st) {b:Nat} (hb:w.heap.size ≤ b) (i:Nat) (v:Value):Rp (w.setCell ⟨b,i,none⟩ v) g len T wd st:=h.ext ((Ext.refl w).set (p:=⟨b,i,none⟩) hb v)
theorem Rp.as {r:PS} (h:Rp w g len T wd st) (k:Kp st r) (h0:st.e ≠ 0):Rp w g len T wd r:=by
 obtain ⟨V,i,pl,dp,h1,h2,h3,h4,h5⟩:=h.ex
 obtain ⟨k1,k2⟩:=k.bad h0
 exact ⟨⟨V,i,pl,dp,by rw [k1];exact h1,h2,h3,fun e => absurd (k1.symm.trans e) h0,fun _ => (h5 h0).trans k2.symm⟩,k.nv h.nv,h.tk,h.tl⟩
theorem Rp.hd (h:Rp w g len T wd st) (h0:st.e = 0) :
  (st.ts = [] ∧ ∃ a cap pl,w.heap[g]? = some (rpO (.slice a T.length cap) T.length 0 pl st.op len wd) ∧ T.length ≤ cap ∧ Sl w g (.slice a T.length cap) T) ∨
  ∃ (b off cap i:Nat) (pl:Int) (x:Tk) (r:List Tk),st.ts = x :: r ∧ i < T.length ∧ T.drop i = x :: r ∧ w.heap[g]? = some (rpO (.slice (some ⟨b,off,none⟩) T.length cap) i 0 pl st.op len wd) ∧ b < g ∧ T.length ≤ cap ∧ cap ≤ 9223372036854775807 ∧
   w.cell? ⟨b,off + i * 4,none⟩ = some (.int .i64 x.k) ∧ w.cell? ⟨b,off + i * 4 + 1,none⟩ = some (.string x.t) ∧ w.cell? ⟨b,off + i * 4 + 2,none⟩ = some (.int .i64 x.n) ∧ w.cell? ⟨b,off + i * 4 + 3,none⟩ = some (.int .i64 x.o) ∧ Sl w g (.slice (some ⟨b,off,none⟩) T.length cap) T:=by
 obtain ⟨V,i,pl,dp,h1,h2,h3,h4,h5⟩:=h.ex
 obtain ⟨h6,rfl⟩:=h4 h0
 rw [h0] at h1
 by_cases hi:i < T.length
 ·have h2':=h2
  obtain ⟨b,off,cap,x,rfl,hb,hcap,hcm,hx,p0,p1,p2,p3⟩:=h2.at i hi
  refine Or.inr ⟨b,off,cap,i,pl,x,T.drop (i + 1),?_,hi,?_,h1,hb,hcap,hcm,p0,p1,p2,p3,h2'⟩
  ·rw [← h6,List.drop_eq_getElem_cons hi]
   congr 1
   rw [← hx]
   unfold hdT
   rw [List.getElem?_eq_getElem hi]
   rfl
  ·rw [List.drop_eq_getElem_cons hi]
   congr 1
   rw [← hx]
   unfold hdT
   rw [List.getElem?_eq_getElem hi]
   rfl
 ·obtain rfl:i = T.length:=by omega
  have h2':=h2
  obtain ⟨a,cap,rfl,hc,_⟩:=h2
  exact Or.inl ⟨by rw [← h6];simp,a,cap,pl,h1,hc,h2'⟩
theorem hd_nil {st:PS} (h:st.ts = []):hdT st.ts 0 = tkZ:=by rw [h];rfl
theorem hd_cons {st:PS} {x:Tk} {r:List Tk} (h:st.ts = x :: r):hdT st.ts 0 = x:=by rw [h];rfl
theorem kind_r (h:Rp w g len T wd st) (h0:st.e = 0):Calls Tryz.prog 48 #[.pointer (some ⟨g,0,none⟩)] w fun e w' => e = .returned (.int .i64 (hdT st.ts 0).k) ∧ Ext w w':=by
 have htl:=h.tl
 rcases h.hd h0 with ⟨hn,a,cap,pl,h1,hc,-⟩ | ⟨b,off,cap,i,pl,x,r,hx,hi,hd,h1,hb,hc,hcm,p0,p1,p2,p3,-⟩
 ·rw [hd_nil hn]
  obtain ⟨c0,c1,c2,c3,c4,c5,c6,zf⟩:=rp_c h1
  clear h1 h
  generalize T.length = N at *
  go_enter Tryz.func48,Tryz.ntmps48
  repeat (go_wp2;go_region)
  go_wp2
  go_ret
  exact ⟨rfl,by (repeat apply Ext.drew);first | exact Ext.refl _ | exact unhide X1⟩
 ·rw [hd_cons hx]
  obtain ⟨c0,c1,c2,c3,c4,c5,c6,zf⟩:=rp_c h1
  clear h1 h hd hx
  generalize T.length = N at *
  go_enter Tryz.func48,Tryz.ntmps48
  repeat (go_wp2;go_region)
  go_wp2
  go_ret
  exact ⟨rfl,by (repeat apply Ext.drew);first | exact Ext.refl _ | exact unhide X1⟩
def PS.isA (st:PS) (s:ByteArray):Bool:=((hdT st.ts 0).k == 6 || (hdT st.ts 0).k == 2) && ((hdT st.ts 0).t.toList == s.toList)
theorem hd_ok (h:Rp w g len T wd st) (h0:st.e = 0):TkOk (hdT st.ts 0):=by
 rcases h.hd h0 with ⟨hn,_⟩ | ⟨b,off,cap,i,pl,x,r,hx,hi,hd,_⟩
 ·rw [hd_nil hn];exact ⟨fun e => absurd e (by decide),fun e => absurd e (by decide)⟩
 ·rw [hd_cons hx]
  exact h.tk x (List.mem_of_mem_drop (by rw [hd];exact List.mem_cons_self))
theorem isA_S (h:Rp w g len T wd st) (h0:st.e = 0) {s:ByteArray} (hs:wordL s.toList = false):st.isA s = st.isS s:=by
 have ho:=(hd_ok h h0).1
 unfold PS.isA PS.isS isT
 generalize hdT st.ts 0 = x at *
 cases hk:(x.k == 6)
 ·cases hk2:(x.k == 2)
  ·rfl
  ·have h2:=ho (by simpa using hk2)
   cases ht:(x.t.toList == s.toList)
   ·rfl
   ·rw [beq_iff_eq] at ht
    rw [← toL,ht,hs] at h2
    cases h2
 ·rfl
theorem isA_W (h:Rp w g len T wd st) (h0:st.e = 0) {s:ByteArray} (hs:(o2 s.toList || o1 s.toList) = false):st.isA s = st.isW s:=by
 have ho:=(hd_ok h h0).2
 unfold PS.isA PS.isW isT
 generalize hdT st.ts 0 = x at *
 cases hk:(x.k == 6)
 ·rfl
 ·have hx:x.k = 6:=by simpa using hk
  have h2:=ho hx
  have hk2:(x.k == 2) = false:=by rw [hx];rfl
  rw [hk2]
  cases ht:(x.t.toList == s.toList)
  ·rfl
  ·rw [beq_iff_eq] at ht
   rw [← toL,ht,hs] at h2
   cases h2
set_option maxHeartbeats 1000000 in
theorem is_r (h:Rp w g len T wd st) (h0:st.e = 0) (s:ByteArray):Calls Tryz.prog 49 #[.pointer (some ⟨g,0,none⟩),.string s] w fun e w' => e = .returned (.bool (st.isA s)) ∧ Ext w w':=by
 have hk:=kind_r h h0
 have htl:=h.tl
 unfold PS.isA
 rcases h.hd h0 with ⟨hn,a,cap,pl,h1,hc,-⟩ | ⟨b,off,cap,i,pl,x,r,hx,hi,hd,h1,hb,hc,hcm,p0,p1,p2,p3,-⟩
 ·rw [hd_nil hn] at hk ⊢
  have HK:Hd (Calls Tryz.prog 48 #[.pointer (some ⟨g,0,none⟩)] w fun e w' => e = .returned (.int .i64 0) ∧ Ext w w'):=hk
  clear hk
  show Calls Tryz.prog 49 #[.pointer (some ⟨g,0,none⟩),.string s] w fun e w' => e = .returned (.bool false) ∧ Ext w w'
  clear h1 h
  go_enter Tryz.func49,Tryz.ntmps49
  repeat (go_wp2_with (go_at_call 48;refine Calls.mono (unhide HK) ?_;rintro e w1 ⟨rfl,hw⟩;have X1:=hide hw;clear hw);go_region)
  go_wp2_with (go_at_call 48;refine Calls.mono (unhide HK) ?_;rintro e w1 ⟨rfl,hw⟩;have X1:=hide hw;clear hw)
  go_ret
  exact ⟨rfl,by (repeat apply Ext.drew);first | exact Ext.refl _ | exact unhide X1⟩
 ·rw [hd_cons hx] at hk ⊢
  have HK:=hide hk
  clear hk
  obtain ⟨c0,c1,c2,c3,c4,c5,c6,zf⟩:=rp_c h1
  clear h1 h hd hx
  generalize T.length = N at *
  cases hk:(x.k == 6)
  ·cases hk2:(x.k == 2)
   ·go_enter Tryz.func49,Tryz.ntmps49
    repeat (go_wp2_with (go_at_call 48;refine Calls.mono (unhide HK) ?_;rintro e w1 ⟨rfl,hw⟩;have c0:=hw.cell c0;have c1:=hw.cell c1;have p1:=hw.cell p1;have X1:=hide hw;clear hw);go_region)
    go_wp2_with (go_at_call 48;refine Calls.mono (unhide HK) ?_;rintro e w1 ⟨rfl,hw⟩;have c0:=hw.cell c0;have c1:=hw.cell c1;have p1:=hw.cell p1;have X1:=hide hw;clear hw)
    go_ret
    exact ⟨rfl,by (repeat apply Ext.drew);first | exact Ext.refl _ | exact unhide X1⟩
   ·go_enter Tryz.func49,Tryz.ntmps49
    repeat (go_wp2_with (go_at_call 48;refine Calls.mono (unhide HK) ?_;rintro e w1 ⟨rfl,hw⟩;have c0:=hw.cell c0;have c1:=hw.cell c1;have p1:=hw.cell p1;have X1:=hide hw;clear hw);go_region)
    go_wp2_with (go_at_call 48;refine Calls.mono (unhide HK) ?_;rintro e w1 ⟨rfl,hw⟩;have c0:=hw.cell c0;have c1:=hw.cell c1;have p1:=hw.cell p1;have X1:=hide hw;clear hw)
    go_ret
    exact ⟨rfl,by (repeat apply Ext.drew);first | exact Ext.refl _ | exact unhide X1⟩
  ·go_enter Tryz.func49,Tryz.ntmps49
   repeat (go_wp2_with (go_at_call 48;refine Calls.mono (unhide HK) ?_;rintro e w1 ⟨rfl,hw⟩;have c0:=hw.cell c0;have c1:=hw.cell c1;have p1:=hw.cell p1;have X1:=hide hw;clear hw);go_region)
   go_wp2_with (go_at_call 48;refine Calls.mono (unhide HK) ?_;rintro e w1 ⟨rfl,hw⟩;have c0:=hw.cell c0;have c1:=hw.cell c1;have p1:=hw.cell p1;have X1:=hide hw;clear hw)
   go_ret
   exact ⟨rfl,by (repeat apply Ext.drew);first | exact Ext.refl _ | exact unhide X1⟩
end Go.Proofs.YtgkdmgndebifiaaGreatDoor
namespace Go.Proofs.YtgkdmgndebifiaaGreatDoor
open Go.RowKit
variable {w w':World} {g len:Nat} {T:List Tk} {wd:Int} {st:PS}
theorem Rp.mkFail (h:Rp w g len T wd st) (h0:st.e = 0) {c:Int} (hc:c ≠ 0) {W:World} {V:Value} {i:Nat} {dp:Int} (k:Gr g w W) (hV:Sl w g V T) (hi:i ≤ T.length) (hr:W.heap[g]? = some (rpO V i c (st.here len) dp len wd)):Rp W g len T wd (st.fail len c):=by
 have e1:st.fail len c = ⟨[],st.op,st.here len,c⟩:=by unfold PS.fail;rw [if_pos h0]
 rw [e1]
 exact ⟨⟨V,i,_,dp,hr,hV.on k,hi,fun e => absurd e hc,fun _ => rfl⟩,⟨fun e => absurd e hc,fun _ => rfl⟩,h.tk,h.tl⟩
abbrev RAns (w:World) (g len:Nat) (T:List Tk) (wd:Int) (v:Value) (r:PS) (e:Ending) (w':World):Prop:=e = .returned v ∧ Rp w' g len T wd r ∧ Gr g w w'
set_option maxHeartbeats 1000000 in
theorem fail_r (h:Rp w g len T wd st) (c:Int) (hc:c ≠ 0):Calls Tryz.prog 47 #[.pointer (some ⟨g,0,none⟩),.int .i64 c] w (RAns w g len T wd (.tuple #[]) (st.fail len c)):=by
 have htl:=h.tl
 have H:=hide h
 by_cases h0:st.e = 0
 ·have HM:Hd (∀ {W:World} {V:Value} {i:Nat} {dp:Int},Gr g w W → Sl w g V T → i ≤ T.length → W.heap[g]? = some (rpO V i c (st.here len) dp len wd) → Rp W g len T wd (st.fail len c)):=fun k hV hi hr => h.mkFail h0 hc k hV hi hr
  rcases h.hd h0 with ⟨hn,a,cap,pl,h1,hcc,hV⟩ | ⟨b,off,cap,i,pl,x,r,hx,hi,hd,h1,hb,hcc,hcm,p0,p1,p2,p3,hV⟩
  ·have hh:st.here len = len:=by unfold PS.here;rw [hn]
   rw [hh] at HM
   have HV:=hide hV
   have H1:=hide h1
   obtain ⟨c0,c1,c2,c3,c4,c5,c6,zf⟩:=rp_c h1
   clear h1 h hV hh hn hc
   generalize hN:T.length = N at *
   go_enter Tryz.func47,Tryz.ntmps47
   repeat (go_wp2;go_region)
   go_wp2
   go_end0
   refine ⟨rfl,unhide HM ?_ (unhide HV) (Nat.le_refl _) (row_set (row_set (unhide H1) 2 (.int .i64 c)) 3 (.int .i64 (len:Int))),?_⟩
   all_goals exact ((Gr.refl g w).set (p:=⟨g,_,none⟩) (Or.inr rfl) _).set (p:=⟨g,_,none⟩) (Or.inr rfl) _ |>.drew
  ·have hh:st.here len = x.o:=by unfold PS.here;rw [hx]
   rw [hh] at HM
   have HV:=hide hV
   have H1:=hide h1
   obtain ⟨c0,c1,c2,c3,c4,c5,c6,zf⟩:=rp_c h1
   clear h1 h hV hh hx hd hc
   have hbg:(b == g) = false:=by simp;omega
   generalize hN:T.length = N at *
   go_enter Tryz.func47,Tryz.ntmps47
   repeat (go_wp2;go_region)
   go_wp2
   go_end0
   refine ⟨rfl,unhide HM ?_ (unhide HV) (Nat.le_of_lt hi) (row_set (row_set (row_set (unhide H1) 2 (.int .i64 c)) 3 (.int .i64 (len:Int))) 3 (.int .i64 (x.o:Int))),?_⟩
   all_goals exact (((Gr.refl g w).set (p:=⟨g,_,none⟩) (Or.inr rfl) _).set (p:=⟨g,_,none⟩) (Or.inr rfl) _ |>.drew.drew.set (p:=⟨g,_,none⟩) (Or.inr rfl) _)
 ·have hR:=h.as (fail_kp st len hc) h0
  have HR:=hide hR
  have he2:(st.e == 0) = false:=by simpa using h0
  have he3:(st.e != 0) = true:=by simp [h0]
  obtain ⟨V,i,pl,dp,h1,-⟩:=h.ex
  obtain ⟨c0,c1,c2,c3,c4,c5,c6,zf⟩:=rp_c h1
  clear h1 h hR h0
  go_enter Tryz.func47,Tryz.ntmps47
  go_wp2
  go_end0
  exact ⟨rfl,unhide HR,Gr.refl _ _⟩
end Go.Proofs.YtgkdmgndebifiaaGreatDoor
