/- Going through a function's names,as plain functions. · What it is that a world holds what is known while a function is gone through;what stays so. · How what is known turns: a number is set;a row grows. · Errors,loops,names that are looked for. -/
import Derived.Test.YtgkdmgndebifiaaGreatDoorZd31
import Derived.Maps.OwnSet
import Derived.StringKeys
set_option linter.unusedSimpArgs false
set_option linter.unusedVariables false
set_option maxRecDepth 10000
namespace Go.Proofs.YtgkdmgndebifiaaGreatDoor
open Go.RowKit Go.Maps
structure WK where
 lm:List (ByteArray × Int)
 od:List ByteArray
 bk:List Int
 lp:Int
 lc:Int
 sl:List Int
 cl:List Int
 e:Int
 sp:Int
 ct:Nat
def lkp (lm:List (ByteArray × Int)) (s:ByteArray):Option Int:=(lm.find? (fun p => p.1.data.toList == s.data.toList)).map (·.2)
def WK.fail (st:WK) (c:Int):WK:=if st.e = 0 then { st with e:=c } else st
def WK.leave (st:WK):WK:=if st.lp = 0 then st.fail 11 else st
def WK.stepTo (st:WK) (n:Int):WK:=if 4194304 < n then WK.fail { st with sp:=n } 65 else { st with sp:=n }
def WK.step (st:WK) (len:Nat):WK:=st.stepTo (wrap64 (st.sp + (1 + (len:Int) / 4000)))
def WK.use (st:WK) (s:ByteArray):WK:=match lkp st.lm s with
 | none => st.fail 11
 | some v => { st with sl:=st.sl ++ [v] }
def WK.put (st:WK) (s:ByteArray) (v:Int):WK:={ st with lm:=(s,v) :: st.lm,od:=st.od ++ [s],ct:=st.ct + 1 }
def WK.up (st:WK):WK:={ st with lc:=wrap64 (st.lc + 1) }
def WK.declare (st:WK) (s:ByteArray):WK:=if (lkp st.lm s).isSome then (st.fail 11).up else (st.put s st.lc).up
def WK.letW (st:WK) (s:ByteArray):WK:=WK.declare { st with sl:=st.sl ++ [st.lc] } s
def WK.opn (st:WK):WK:={ st with bk:=st.bk ++ [(st.od.length:Int)] }
def drp (lm:List (ByteArray × Int)) (s:ByteArray):List (ByteArray × Int):=lm.filter (fun p => !(p.1.data.toList == s.data.toList))
def WK.shut (st:WK) (b:Nat):WK:={ st with lm:=(st.od.drop b).foldl drp st.lm,od:=st.od.take b,bk:=st.bk.dropLast }
def WK.close (st:WK):Option WK:=match st.bk.getLast? with
 | none => none
 | some b => if 0 ≤ b ∧ b.toNat ≤ st.od.length then some (st.shut b.toNat) else none
def biL:List (ByteArray × Int × Int):=[(⟨#[112,117,115,104]⟩,13,2),(⟨#[99,120]⟩,14,2),(⟨#[108,101,110]⟩,17,1),(⟨#[114,101]⟩,18,1),(⟨#[105,109]⟩,19,1),(⟨#[99,111,110,106]⟩,20,1)]
def biP (s:ByteArray):Option (Int × Int):=(biL.find? (fun p => p.1.data.toList == s.data.toList)).map (·.2)
def calP (nm:List (ByteArray × Int)) (fs:List PFn) (s:ByteArray):Option (Int × Int):=match biP s with
 | some (op,n) => some (wrap64 (op + 1000),n)
 | none => match lkp nm s with
  | none => none
  | some i => some (i,(((fs[i.toNat]?).map (·.ps.length)).getD 0:Nat))
def WK.call (st:WK) (nm:List (ByteArray × Int)) (fs:List PFn) (s:ByteArray) (k:Nat):WK:=match calP nm fs s with
 | none => st.fail 11
 | some (i,n) => if n = k then { st with cl:=st.cl ++ [i] } else st.fail 12
def WK.bgn (st:WK) (p:PN):WK :=
 if p.k = 2 ∨ p.k = 19 then (st.step p.s.size).use p.s else if p.k = 10 then (st.step p.s.size).opn else
 if p.k = 4 then { st.step p.s.size with lp:=wrap64 ((st.step p.s.size).lp + 1) } else if p.k = 5 ∨ p.k = 6 then (st.step p.s.size).leave else st.step p.s.size
def WK.fin (st:WK) (nm:List (ByteArray × Int)) (fs:List PFn) (p:PN):Option WK :=
 if p.k = 1 then some (st.letW p.s) else if p.k = 10 then st.close else if p.k = 4 then some { st with lp:=wrap64 (st.lp - 1) } else
 if p.k = 20 then some (st.call nm fs p.s p.l.length) else some st
def small (s:ByteArray):Bool:=decide (s.size ≤ 1000000)
def thr (nm:List (ByteArray × Int)) (fs:List PFn):Nat → List (PN × Nat) → WK → Option WK
 | 0,_,_ => none
 | f + 1,[],st => some st
 | f + 1,(p,d) :: rest,st => if st.e ≠ 0 then some st else
  if d = p.l.length then (match st.fin nm fs p with
   | none => none
   | some st2 => thr nm fs f rest st2) else
  match p.l[d]? with
  | none => none
  | some q => if small q.s then thr nm fs f ((q,0) :: (p,d + 1) :: rest) (st.bgn q) else none
def prm:List ByteArray → WK → WK
 | [],st => st
 | s :: r,st => if st.e ≠ 0 then st else prm r (st.declare s)
def wkZ (sp:Int):WK:=⟨[],[],[],0,0,[],[],0,sp,0⟩
def fnW (nm:List (ByteArray × Int)) (fs:List PFn) (f:Nat) (sp:Int) (p:PFn):Option WK:=if small p.bd.s && p.ps.all small then (match thr nm fs f [(p.bd,0)] ((prm p.ps (wkZ sp)).bgn p.bd) with
 | none => none
 | some st => some (if 64 < st.lc then st.fail 65 else st)) else none
def nums:List PFn → Nat → List (ByteArray × Int) → Option (List (ByteArray × Int))
 | [],_,nm => some nm
 | p :: r,i,nm => if (lkp nm p.nm).isSome || (biP p.nm).isSome then none else nums r (i + 1) ((p.nm,(i:Int)) :: nm)
structure PSc where
 lc:Int
 sl:List Int
 cl:List Int
def chk (nm:List (ByteArray × Int)) (all:List PFn) (f:Nat):List PFn → Int → List PSc → Option (List PSc × Int)
 | [],_,acc => some (acc,0)
 | p :: r,sp,acc => match fnW nm all f sp p with
  | none => none
  | some st => if st.e ≠ 0 then some ([],st.e) else chk nm all f r st.sp (acc ++ [⟨st.lc,st.sl,st.cl⟩])
def mainP (nm:List (ByteArray × Int)) (fs:List PFn):Int:=match lkp nm ⟨#[109,97,105,110]⟩ with
 | none => 11
 | some i => if 0 < ((fs[i.toNat]?).map (·.ps.length)).getD 0 then 12 else 0
def checkQ (fs:List PFn) (f:Nat):Option (List PSc × Int):=match nums fs 0 [] with
 | none => some ([],11)
 | some nm => match chk nm fs f fs 0 [] with
  | none => none
  | some (l,e) => if e ≠ 0 then some ([],e) else if mainP nm fs ≠ 0 then some ([],mainP nm fs) else some (l,0)
def checkP (fs:List PFn) (f:Nat):Option (List PSc × Int):=if fs.all (fun p => small p.nm) then checkQ fs f else none
end Go.Proofs.YtgkdmgndebifiaaGreatDoor
namespace Go.Proofs.YtgkdmgndebifiaaGreatDoor
open Go.RowKit Go.Maps
theorem keyS:Keyed Tryz.prog 9:=string_keyed Tryz.underlying9
theorem zeroI (w:World):(zeroValue 3).run Tryz.prog w = .ok (.int .i64 0) w:=by kernel_rfl
abbrev kyS (s:ByteArray):Lit:=.string s.data.toList
def MapIs (w:World) (bm n:Nat) (lm:List (ByteArray × Int)):Prop:=∃ D:DataW Unit,w.ownsMap Tryz.prog 9 (plainElem Tryz.prog 3) bm n D ∧
 ∀ s:ByteArray,Maps.has D (kyS s) = (lkp lm s).isSome ∧ ∀ v,lkp lm s = some v → D.atKey (kyS s) (.lit (.int .i64 0)) = .lit (.int .i64 v)
theorem MapIs.keep {w w':World} {bm n:Nat} {lm:List (ByteArray × Int)} (h:MapIs w bm n lm) (hk:w'.heap[bm]? = w.heap[bm]?):MapIs w' bm n lm:=by
 obtain ⟨D,⟨es,clock,hb,r⟩,hs⟩:=h
 exact ⟨D,⟨es,clock,hk.trans hb,r⟩,hs⟩
theorem MapIs.lt {w:World} {bm n:Nat} {lm:List (ByteArray × Int)} (h:MapIs w bm n lm):bm < w.heap.size:=by
 obtain ⟨D,⟨es,clock,hb,r⟩,hs⟩:=h
 exact (Array.getElem?_eq_some_iff.1 hb).1
theorem MapIs.made (w:World):MapIs (w.alloc (.map #[] 0)) w.heap.size 0 [] :=
 ⟨.map [],World.ownsMap_made w _ _ _,fun s => ⟨rfl,fun v h => by cases h⟩⟩
theorem lkp_cons (k:ByteArray) (v:Int) (lm:List (ByteArray × Int)) (s:ByteArray):lkp ((k,v) :: lm) s = if k.data.toList = s.data.toList then some v else lkp lm s:=by
 unfold lkp
 rw [List.find?_cons]
 by_cases h:k.data.toList = s.data.toList
 ·have e:(k.data.toList == s.data.toList) = true:=beq_iff_eq.2 h
  rw [if_pos h]
  show Option.map _ (match (k.data.toList == s.data.toList) with | true => some (k,v) | false => _) = _
  rw [e]
  rfl
 ·have e:(k.data.toList == s.data.toList) = false:=beq_eq_false_iff_ne.2 h
  rw [if_neg h]
  show Option.map _ (match (k.data.toList == s.data.toList) with | true => some (k,v) | false => _) = _
  rw [e]
theorem lkp_drp (lm:List (ByteArray × Int)) (k s:ByteArray):lkp (drp lm k) s = if k.data.toList = s.data.toList then none else lkp lm s:=by
 induction lm with
 | nil => unfold lkp drp;simp
 | cons p r ih =>
  by_cases hp:p.1.data.toList = k.data.toList
  ·have e:drp (p :: r) k = drp r k:=by
    have e1:(p.1.data.toList == k.data.toList) = true:=beq_iff_eq.2 hp
    unfold drp;rw [List.filter_cons,e1];rfl
   rw [e,ih]
   split
   ·rfl
   ·rename_i hne
    rw [show p = (p.1,p.2) from rfl,lkp_cons,if_neg (by rw [hp];exact hne)]
  ·have e:drp (p :: r) k = p :: drp r k:=by
    have e1:(p.1.data.toList == k.data.toList) = false:=beq_eq_false_iff_ne.2 hp
    unfold drp;rw [List.filter_cons,e1];rfl
   rw [e,show p = (p.1,p.2) from rfl,lkp_cons,ih,lkp_cons]
   by_cases h2:p.1.data.toList = s.data.toList
   ·rw [if_pos h2,if_pos h2,if_neg (by intro h3;exact hp (h2.trans h3.symm))]
   ·rw [if_neg h2,if_neg h2]
theorem MapIs.put {w':World} {bm n:Nat} {lm:List (ByteArray × Int)} {D:DataW Unit} {k:ByteArray} {v:Int} (hD:IsMap D) (hs:∀ s:ByteArray,Maps.has D (kyS s) = (lkp lm s).isSome ∧ ∀ v,lkp lm s = some v → D.atKey (kyS s) (.lit (.int .i64 0)) = .lit (.int .i64 v))
  (ho:w'.ownsMap Tryz.prog 9 (plainElem Tryz.prog 3) bm (n + 1) (D.put (kyS k) (.lit (.int .i64 v)))):MapIs w' bm (n + 1) ((k,v) :: lm):=by
 refine ⟨_,ho,fun s => ?_⟩
 rw [lkp_cons]
 by_cases h:k.data.toList = s.data.toList
 ·rw [if_pos h,show kyS s = kyS k from congrArg Lit.string h.symm]
  exact ⟨Maps.has_put_same hD (show WideAt.IsKeyLit (kyS k) from trivial) _,fun x hx => by cases hx;exact Maps.atKey_put_same hD (show WideAt.IsKeyLit (kyS k) from trivial) _ _⟩
 ·have hne:kyS s ≠ kyS k:=fun e => h (by injection e with e;exact e.symm)
  rw [if_neg h,Maps.has_put_other hne]
  exact ⟨(hs s).1,fun x hx => by rw [Maps.atKey_put_other hne];exact (hs s).2 x hx⟩
theorem MapIs.del {w':World} {bm n:Nat} {lm:List (ByteArray × Int)} {D:DataW Unit} {k:ByteArray} (hs:∀ s:ByteArray,Maps.has D (kyS s) = (lkp lm s).isSome ∧ ∀ v,lkp lm s = some v → D.atKey (kyS s) (.lit (.int .i64 0)) = .lit (.int .i64 v))
  (ho:w'.ownsMap Tryz.prog 9 (plainElem Tryz.prog 3) bm n (D.del (kyS k))):MapIs w' bm n (drp lm k):=by
 refine ⟨_,ho,fun s => ?_⟩
 rw [lkp_drp]
 by_cases h:k.data.toList = s.data.toList
 ·rw [if_pos h,show kyS s = kyS k from congrArg Lit.string h.symm]
  exact ⟨Maps.has_del_same,fun x hx => by cases hx⟩
 ·have hne:kyS s ≠ kyS k:=fun e => h (by injection e with e;exact e.symm)
  rw [if_neg h,Maps.has_del_other hne]
  exact ⟨(hs s).1,fun x hx => by rw [Maps.atKey_del_other hne];exact (hs s).2 x hx⟩
structure RowAt (w:World) (col:Nat → Nat) (c:Nat) (t:TypeId) (a:Option Addr) (cap:Nat) (xs:List Value):Prop where
 own:w.ownsRow 0 t 1 (.slice a xs.length cap) xs.length xs
 hue:∀ k,(Value.slice a xs.length cap).ownBlock = some k → col k = c
theorem RowAt.keep {w w':World} {col col':Nat → Nat} {c:Nat} {t:TypeId} {a:Option Addr} {cap:Nat} {xs:List Value} (h:RowAt w col c t a cap xs) (hk:∀ k,k < w.heap.size → col k = c → w'.heap[k]? = w.heap[k]?) (hc:∀ k,k < w.heap.size → col' k = col k):RowAt w' col' c t a cap xs:=by
 refine ⟨?_,fun k e => by rw [hc k (h.own.lt k e).2];exact h.hue k e⟩
 have hlt:=h.own.lt
 have hue:=h.hue
 obtain ⟨h1,h2⟩:=h.own
 refine ⟨h1,?_⟩
 rcases h2 with h2 | ⟨g,cap2,cur,e,hb,hg,rest⟩
 ·exact Or.inl h2
 ·have ho:(Value.slice a xs.length cap).ownBlock = some g:=by rw [e];rfl
  exact Or.inr ⟨g,cap2,cur,e,hb,(hk g (hlt g ho).2 (hue g ho)).trans hg,rest⟩
abbrev wkO (P:Nat) (lv:Option Nat) (oa:Option Addr) (on oc:Nat) (ba:Option Addr) (bn bc:Nat) (lp lc:Int) (sa:Option Addr) (sn sc:Nat) (ca:Option Addr) (cn cc:Nat) (e:Int):Obj :=
 .cells #[.pointer (some ⟨P,0,none⟩),.map lv,.slice oa on oc,.slice ba bn bc,.int .i64 lp,.int .i64 lc,.slice sa sn sc,.slice ca cn cc,.int .i64 e] 105 (0,0)
abbrev pgO (fv:Value) (M:Nat) (sp:Int):Obj:=.cells #[fv,.map (some M),.int .i64 sp] 100 (0,0)
abbrev strs (l:List ByteArray):List Value:=l.map Value.string
abbrev nms (l:List Int):List Value:=l.map (Value.int .i64)
def MapAt (w:World) (col:Nat → Nat) (lv:Option Nat) (lm:List (ByteArray × Int)) (ct:Nat):Prop :=
 (lv = none ∧ lm = []) ∨ ∃ bm n,lv = some bm ∧ col bm = 1 ∧ n ≤ ct ∧ MapIs w bm n lm
structure WS (w:World) (B P M:Nat) (fv:Value) (col:Nat → Nat) (st:WK):Prop where
 fresh:∀ k,w.heap.size ≤ k → col k = 0
 cB:col B = 6
 cP:col P = 7
 ex:∃ (lv:Option Nat) (oa ba sa ca:Option Addr) (oc bc sc cc:Nat),
  w.heap[B]? = some (wkO P lv oa st.od.length oc ba st.bk.length bc st.lp st.lc sa st.sl.length sc ca st.cl.length cc st.e) ∧
  w.heap[P]? = some (pgO fv M st.sp) ∧ MapAt w col lv st.lm st.ct ∧
  RowAt w col 2 9 oa oc (strs st.od) ∧ RowAt w col 3 3 ba bc (nms st.bk) ∧ RowAt w col 4 3 sa sc (nms st.sl) ∧ RowAt w col 5 3 ca cc (nms st.cl)
structure Wk (col col':Nat → Nat) (w w':World):Prop where
 os:w'.os = w.os
 tape:w'.tape = w.tape
 output:w'.output = w.output
 size:w.heap.size ≤ w'.heap.size
 same:∀ k,k < w.heap.size → col' k = col k
 keep:∀ k,k < w.heap.size → col k = 0 → w'.heap[k]? = w.heap[k]?
theorem Wk.refl (col:Nat → Nat) (w:World):Wk col col w w:=⟨rfl,rfl,rfl,Nat.le_refl _,fun _ _ => rfl,fun _ _ _ => rfl⟩
theorem Wk.trans {c1 c2 c3:Nat → Nat} {a b c:World} (h:Wk c1 c2 a b) (k:Wk c2 c3 b c):Wk c1 c3 a c :=
 ⟨k.os.trans h.os,k.tape.trans h.tape,k.output.trans h.output,Nat.le_trans h.size k.size,fun i hi => (k.same i (Nat.lt_of_lt_of_le hi h.size)).trans (h.same i hi),fun i hi h0 => (k.keep i (Nat.lt_of_lt_of_le hi h.size) ((h.same i hi).trans h0)).trans (h.keep i hi h0)⟩
theorem Wk.ext {col:Nat → Nat} {w w':World} (h:Ext w w'):Wk col col w w':=⟨h.os,h.tape,h.output,h.size,fun _ _ => rfl,fun k hk _ => h.block k hk⟩
theorem WS.keep {w w':World} {B P M:Nat} {fv:Value} {col:Nat → Nat} {st:WK} (h:WS w B P M fv col st) (hz:w.heap.size ≤ w'.heap.size) (hk:∀ k,k < w.heap.size → col k ≠ 0 → w'.heap[k]? = w.heap[k]?):WS w' B P M fv col st:=by
 obtain ⟨lv,oa,ba,sa,ca,oc,bc,sc,cc,hB,hP,hm,h2,h3,h4,h5⟩:=h.ex
 have lB:=(Array.getElem?_eq_some_iff.1 hB).1
 have lP:=(Array.getElem?_eq_some_iff.1 hP).1
 refine ⟨fun k hk => h.fresh k (by omega),h.cB,h.cP,lv,oa,ba,sa,ca,oc,bc,sc,cc,(hk B lB (by rw [h.cB];decide)).trans hB,(hk P lP (by rw [h.cP];decide)).trans hP,?_,h2.keep (fun k h1 h2 => hk k h1 (by omega)) (fun _ _ => rfl),h3.keep (fun k h1 h2 => hk k h1 (by omega)) (fun _ _ => rfl),h4.keep (fun k h1 h2 => hk k h1 (by omega)) (fun _ _ => rfl),h5.keep (fun k h1 h2 => hk k h1 (by omega)) (fun _ _ => rfl)⟩
 rcases hm with hm | ⟨bm,n,e,hc,hn,hm⟩
 ·exact Or.inl hm
 ·exact Or.inr ⟨bm,n,e,hc,hn,hm.keep (hk bm hm.lt (by rw [hc];decide))⟩
theorem WS.ext {w w':World} {B P M:Nat} {fv:Value} {col:Nat → Nat} {st:WK} (h:WS w B P M fv col st) (k:Ext w w'):WS w' B P M fv col st:=h.keep k.le (fun i hi _ => k.block i hi)
def Walks (B P M:Nat) (fv:Value) (col:Nat → Nat) (w:World) (st':WK) (e:Ending) (w':World):Prop :=
 e = .returned (.tuple #[]) ∧ ∃ col',WS w' B P M fv col' st' ∧ Wk col col' w w'
end Go.Proofs.YtgkdmgndebifiaaGreatDoor
namespace Go.Proofs.YtgkdmgndebifiaaGreatDoor
open Go.RowKit Go.Maps
theorem WS.setE {w:World} {B P M:Nat} {fv:Value} {col:Nat → Nat} {st:WK} (h:WS w B P M fv col st) (c:Int):WS (w.setCell ⟨B,8,none⟩ (.int .i64 c)) B P M fv col { st with e:=c } ∧ Wk col col w (w.setCell ⟨B,8,none⟩ (.int .i64 c)):=by
 obtain ⟨lv,oa,ba,sa,ca,oc,bc,sc,cc,hB,hP,hm,h2,h3,h4,h5⟩:=h.ex
 have hz:(w.setCell ⟨B,8,none⟩ (.int .i64 c)).heap.size = w.heap.size:=by simp [World.setCell]
 have hk:∀ k,k ≠ B → (w.setCell ⟨B,8,none⟩ (.int .i64 c)).heap[k]? = w.heap[k]?:=fun k hk => Below.heap_setCell _ _ _ _ hk
 have hr:=row_set hB 8 (.int .i64 c)
 have cB:=h.cB
 have cP:=h.cP
 have xo:(w.setCell ⟨B,8,none⟩ (.int .i64 c)).os = w.os:=rfl
 have xt:(w.setCell ⟨B,8,none⟩ (.int .i64 c)).tape = w.tape:=rfl
 have xu:(w.setCell ⟨B,8,none⟩ (.int .i64 c)).output = w.output:=rfl
 generalize w.setCell ⟨B,8,none⟩ (.int .i64 c) = W at *
 have kr:∀ i,i ≠ 6 → ∀ k,k < w.heap.size → col k = i → W.heap[k]? = w.heap[k]?:=fun i hi k _ hc => hk k (fun e => by rw [e,cB] at hc;omega)
 refine ⟨⟨fun k h1 => h.fresh k (by omega),cB,cP,lv,oa,ba,sa,ca,oc,bc,sc,cc,by simpa only [List.setIfInBounds_toArray,List.set_cons_zero,List.set_cons_succ] using hr,(hk P (fun e => by rw [e,cB] at cP;omega)).trans hP,?_,h2.keep (kr 2 (by decide)) (fun _ _ => rfl),h3.keep (kr 3 (by decide)) (fun _ _ => rfl),h4.keep (kr 4 (by decide)) (fun _ _ => rfl),h5.keep (kr 5 (by decide)) (fun _ _ => rfl)⟩,?_⟩
 ·rcases hm with hm | ⟨bm,n,e,hc,hn,hm⟩
  ·exact Or.inl hm
  ·exact Or.inr ⟨bm,n,e,hc,hn,hm.keep (kr 1 (by decide) bm hm.lt hc)⟩
 ·exact ⟨xo,xt,xu,by omega,fun _ _ => rfl,fun k _ h0 => hk k (fun e => by rw [e,cB] at h0;omega)⟩
theorem WS.setLp {w:World} {B P M:Nat} {fv:Value} {col:Nat → Nat} {st:WK} (h:WS w B P M fv col st) (c:Int):WS (w.setCell ⟨B,4,none⟩ (.int .i64 c)) B P M fv col { st with lp:=c } ∧ Wk col col w (w.setCell ⟨B,4,none⟩ (.int .i64 c)):=by
 obtain ⟨lv,oa,ba,sa,ca,oc,bc,sc,cc,hB,hP,hm,h2,h3,h4,h5⟩:=h.ex
 have hz:(w.setCell ⟨B,4,none⟩ (.int .i64 c)).heap.size = w.heap.size:=by simp [World.setCell]
 have hk:∀ k,k ≠ B → (w.setCell ⟨B,4,none⟩ (.int .i64 c)).heap[k]? = w.heap[k]?:=fun k hk => Below.heap_setCell _ _ _ _ hk
 have hr:=row_set hB 4 (.int .i64 c)
 have cB:=h.cB
 have cP:=h.cP
 have xo:(w.setCell ⟨B,4,none⟩ (.int .i64 c)).os = w.os:=rfl
 have xt:(w.setCell ⟨B,4,none⟩ (.int .i64 c)).tape = w.tape:=rfl
 have xu:(w.setCell ⟨B,4,none⟩ (.int .i64 c)).output = w.output:=rfl
 generalize w.setCell ⟨B,4,none⟩ (.int .i64 c) = W at *
 have kr:∀ i,i ≠ 6 → ∀ k,k < w.heap.size → col k = i → W.heap[k]? = w.heap[k]?:=fun i hi k _ hc => hk k (fun e => by rw [e,cB] at hc;omega)
 refine ⟨⟨fun k h1 => h.fresh k (by omega),cB,cP,lv,oa,ba,sa,ca,oc,bc,sc,cc,by simpa only [List.setIfInBounds_toArray,List.set_cons_zero,List.set_cons_succ] using hr,(hk P (fun e => by rw [e,cB] at cP;omega)).trans hP,?_,h2.keep (kr 2 (by decide)) (fun _ _ => rfl),h3.keep (kr 3 (by decide)) (fun _ _ => rfl),h4.keep (kr 4 (by decide)) (fun _ _ => rfl),h5.keep (kr 5 (by decide)) (fun _ _ => rfl)⟩,?_⟩
 ·rcases hm with hm | ⟨bm,n,e,hc,hn,hm⟩
  ·exact Or.inl hm
  ·exact Or.inr ⟨bm,n,e,hc,hn,hm.keep (kr 1 (by decide) bm hm.lt hc)⟩
 ·exact ⟨xo,xt,xu,by omega,fun _ _ => rfl,fun k _ h0 => hk k (fun e => by rw [e,cB] at h0;omega)⟩
theorem WS.setLc {w:World} {B P M:Nat} {fv:Value} {col:Nat → Nat} {st:WK} (h:WS w B P M fv col st) (c:Int):WS (w.setCell ⟨B,5,none⟩ (.int .i64 c)) B P M fv col { st with lc:=c } ∧ Wk col col w (w.setCell ⟨B,5,none⟩ (.int .i64 c)):=by
 obtain ⟨lv,oa,ba,sa,ca,oc,bc,sc,cc,hB,hP,hm,h2,h3,h4,h5⟩:=h.ex
 have hz:(w.setCell ⟨B,5,none⟩ (.int .i64 c)).heap.size = w.heap.size:=by simp [World.setCell]
 have hk:∀ k,k ≠ B → (w.setCell ⟨B,5,none⟩ (.int .i64 c)).heap[k]? = w.heap[k]?:=fun k hk => Below.heap_setCell _ _ _ _ hk
 have hr:=row_set hB 5 (.int .i64 c)
 have cB:=h.cB
 have cP:=h.cP
 have xo:(w.setCell ⟨B,5,none⟩ (.int .i64 c)).os = w.os:=rfl
 have xt:(w.setCell ⟨B,5,none⟩ (.int .i64 c)).tape = w.tape:=rfl
 have xu:(w.setCell ⟨B,5,none⟩ (.int .i64 c)).output = w.output:=rfl
 generalize w.setCell ⟨B,5,none⟩ (.int .i64 c) = W at *
 have kr:∀ i,i ≠ 6 → ∀ k,k < w.heap.size → col k = i → W.heap[k]? = w.heap[k]?:=fun i hi k _ hc => hk k (fun e => by rw [e,cB] at hc;omega)
 refine ⟨⟨fun k h1 => h.fresh k (by omega),cB,cP,lv,oa,ba,sa,ca,oc,bc,sc,cc,by simpa only [List.setIfInBounds_toArray,List.set_cons_zero,List.set_cons_succ] using hr,(hk P (fun e => by rw [e,cB] at cP;omega)).trans hP,?_,h2.keep (kr 2 (by decide)) (fun _ _ => rfl),h3.keep (kr 3 (by decide)) (fun _ _ => rfl),h4.keep (kr 4 (by decide)) (fun _ _ => rfl),h5.keep (kr 5 (by decide)) (fun _ _ => rfl)⟩,?_⟩
 ·rcases hm with hm | ⟨bm,n,e,hc,hn,hm⟩
  ·exact Or.inl hm
  ·exact Or.inr ⟨bm,n,e,hc,hn,hm.keep (kr 1 (by decide) bm hm.lt hc)⟩
 ·exact ⟨xo,xt,xu,by omega,fun _ _ => rfl,fun k _ h0 => hk k (fun e => by rw [e,cB] at h0;omega)⟩
theorem WS.setSp {w:World} {B P M:Nat} {fv:Value} {col:Nat → Nat} {st:WK} (h:WS w B P M fv col st) (c:Int):WS (w.setCell ⟨P,2,none⟩ (.int .i64 c)) B P M fv col { st with sp:=c } ∧ Wk col col w (w.setCell ⟨P,2,none⟩ (.int .i64 c)):=by
 obtain ⟨lv,oa,ba,sa,ca,oc,bc,sc,cc,hB,hP,hm,h2,h3,h4,h5⟩:=h.ex
 have hz:(w.setCell ⟨P,2,none⟩ (.int .i64 c)).heap.size = w.heap.size:=by simp [World.setCell]
 have hk:∀ k,k ≠ P → (w.setCell ⟨P,2,none⟩ (.int .i64 c)).heap[k]? = w.heap[k]?:=fun k hk => Below.heap_setCell _ _ _ _ hk
 have hr:=row_set hP 2 (.int .i64 c)
 have cB:=h.cB
 have cP:=h.cP
 have xo:(w.setCell ⟨P,2,none⟩ (.int .i64 c)).os = w.os:=rfl
 have xt:(w.setCell ⟨P,2,none⟩ (.int .i64 c)).tape = w.tape:=rfl
 have xu:(w.setCell ⟨P,2,none⟩ (.int .i64 c)).output = w.output:=rfl
 generalize w.setCell ⟨P,2,none⟩ (.int .i64 c) = W at *
 have kr:∀ i,i ≠ 7 → ∀ k,k < w.heap.size → col k = i → W.heap[k]? = w.heap[k]?:=fun i hi k _ hc => hk k (fun e => by rw [e,cP] at hc;omega)
 refine ⟨⟨fun k h1 => h.fresh k (by omega),cB,cP,lv,oa,ba,sa,ca,oc,bc,sc,cc,(hk B (fun e => by rw [e,cP] at cB;omega)).trans hB,by simpa only [List.setIfInBounds_toArray,List.set_cons_zero,List.set_cons_succ] using hr,?_,h2.keep (kr 2 (by decide)) (fun _ _ => rfl),h3.keep (kr 3 (by decide)) (fun _ _ => rfl),h4.keep (kr 4 (by decide)) (fun _ _ => rfl),h5.keep (kr 5 (by decide)) (fun _ _ => rfl)⟩,?_⟩
 ·rcases hm with hm | ⟨bm,n,e,hc,hn,hm⟩
  ·exact Or.inl hm
  ·exact Or.inr ⟨bm,n,e,hc,hn,hm.keep (kr 1 (by decide) bm hm.lt hc)⟩
 ·exact ⟨xo,xt,xu,by omega,fun _ _ => rfl,fun k _ h0 => hk k (fun e => by rw [e,cP] at h0;omega)⟩
def hued (col:Nat → Nat) (g' c:Nat):Nat → Nat:=fun k => if k = g' then c else col k
theorem RowAt.append {w w6:World} {col:Nat → Nat} {c:Nat} {t:TypeId} {a:Option Addr} {cap:Nat} {xs:List Value} (h:RowAt w col c t a cap xs) (hf:∀ k,w.heap.size ≤ k → col k = 0) (ob:Obj) {g' cap':Nat} {u:Value}
  (ho:w6.ownsRow 0 t 1 (.slice (some ⟨g',0,none⟩) (xs.length + 1) cap') (xs.length + 1) (xs ++ [u])) (hgw:(w.alloc ob).grownBy w6 (Value.slice a xs.length cap).ownBlock) (hw:(Value.slice a xs.length cap).ownBlock = some g' ∨ (w.alloc ob).heap.size ≤ g') :
  RowAt w6 (hued col g' c) c t (some ⟨g',0,none⟩) cap' (xs ++ [u]) ∧ (∀ k,k < w.heap.size → hued col g' c k = col k) ∧ (∀ k,k < w.heap.size → col k ≠ c → w6.heap[k]? = w.heap[k]?) ∧ (∀ k,w6.heap.size ≤ k → hued col g' c k = 0) ∧ w.heap.size ≤ w6.heap.size:=by
 have hz:(w.alloc ob).heap.size = w.heap.size + 1:=size_alloc _ _
 have hlt:=(ho.lt g' rfl).2
 have hgs:=hgw.size
 refine ⟨⟨by rw [List.length_append];exact ho,fun k e => ?_⟩,fun k hk => ?_,fun k hk hc => ?_,fun k hk => ?_,by omega⟩
 ·simp only [Value.ownBlock,Option.some.injEq] at e
  subst e
  unfold hued
  rw [if_pos rfl]
 ·unfold hued
  split
  ·rename_i e
   subst e
   rcases hw with e | e
   ·exact (h.hue k e).symm
   ·omega
  ·rfl
 ·refine (hgw.block k (by omega) (fun e => ?_)).trans ((Ext.alloc w ob).block k hk)
  exact hc (h.hue k e.symm)
 ·unfold hued
  rw [if_neg (by omega)]
  exact hf k (by omega)
theorem WS.addOd {w w6:World} {B P M:Nat} {fv:Value} {col:Nat → Nat} {st:WK} (h:WS w B P M fv col st) {lv:Option Nat} {oa ba sa ca:Option Addr} {oc bc sc cc:Nat} (hB:w.heap[B]? = some (wkO P lv oa st.od.length oc ba st.bk.length bc st.lp st.lc sa st.sl.length sc ca st.cl.length cc st.e)) (hP:w.heap[P]? = some (pgO fv M st.sp)) (hm:MapAt w col lv st.lm st.ct)
  (h2:RowAt w col 2 9 oa oc (strs st.od)) (h3:RowAt w col 3 3 ba bc (nms st.bk)) (h4:RowAt w col 4 3 sa sc (nms st.sl)) (h5:RowAt w col 5 3 ca cc (nms st.cl)) (ob:Obj) {g' cap':Nat} {x:ByteArray}
  (ho:w6.ownsRow 0 9 1 (.slice (some ⟨g',0,none⟩) (st.od.length + 1) cap') (st.od.length + 1) (strs st.od ++ [.string x])) (hgw:(w.alloc ob).grownBy w6 (Value.slice oa st.od.length oc).ownBlock) (hw:(Value.slice oa st.od.length oc).ownBlock = some g' ∨ (w.alloc ob).heap.size ≤ g') :
  WS (w6.setCell ⟨B,2,none⟩ (.slice (some ⟨g',0,none⟩) (st.od.length + 1) cap')) B P M fv (hued col g' 2) { st with od:=st.od ++ [x] } ∧ Wk col (hued col g' 2) w (w6.setCell ⟨B,2,none⟩ (.slice (some ⟨g',0,none⟩) (st.od.length + 1) cap')):=by
 have e0:(strs st.od).length = st.od.length:=List.length_map _
 obtain ⟨r0,r1,r2,r3,r4⟩:=h2.append h.fresh ob (g':=g') (cap':=cap') (u:=.string x) (by rw [e0];exact ho) (by rw [e0];exact hgw) (by rw [e0];exact hw)
 have lB:=(Array.getElem?_eq_some_iff.1 hB).1
 have lP:=(Array.getElem?_eq_some_iff.1 hP).1
 have cB:=h.cB
 have cP:=h.cP
 have cB6:hued col g' 2 B = 6:=(r1 B lB).trans cB
 have cP7:hued col g' 2 P = 7:=(r1 P lP).trans cP
 have hz:(w6.setCell ⟨B,2,none⟩ (.slice (some ⟨g',0,none⟩) (st.od.length + 1) cap')).heap.size = w6.heap.size:=by simp [World.setCell]
 have hk:∀ k,k ≠ B → (w6.setCell ⟨B,2,none⟩ (.slice (some ⟨g',0,none⟩) (st.od.length + 1) cap')).heap[k]? = w6.heap[k]?:=fun k hk => Below.heap_setCell _ _ _ _ hk
 have hr:=row_set (w:=w6) ((r2 B lB (by omega)).trans hB) 2 (.slice (some ⟨g',0,none⟩) (st.od.length + 1) cap')
 have xo:(w6.setCell ⟨B,2,none⟩ (.slice (some ⟨g',0,none⟩) (st.od.length + 1) cap')).os = w.os:=hgw.os
 have xt:(w6.setCell ⟨B,2,none⟩ (.slice (some ⟨g',0,none⟩) (st.od.length + 1) cap')).tape = w.tape:=hgw.tape
 have xu:(w6.setCell ⟨B,2,none⟩ (.slice (some ⟨g',0,none⟩) (st.od.length + 1) cap')).output = w.output:=hgw.output
 generalize w6.setCell ⟨B,2,none⟩ (.slice (some ⟨g',0,none⟩) (st.od.length + 1) cap') = W at *
 have hln:(st.od ++ [x]).length = st.od.length + 1:=by simp
 refine ⟨⟨fun k h1 => r3 k (by omega),cB6,cP7,lv,(some ⟨g',0,none⟩),ba,sa,ca,cap',bc,sc,cc,by show W.heap[B]? = some (wkO P lv (some ⟨g',0,none⟩) (st.od ++ [x]).length cap' ba st.bk.length bc st.lp st.lc sa st.sl.length sc ca st.cl.length cc st.e);rw [hln];simpa only [List.setIfInBounds_toArray,List.set_cons_zero,List.set_cons_succ] using hr,(hk P (fun e => by rw [e,cB] at cP;omega)).trans ((r2 P lP (by omega)).trans hP),?_,(show RowAt W (hued col g' 2) 2 9 (some ⟨g',0,none⟩) cap' (strs (st.od ++ [x])) from by rw [show strs (st.od ++ [x]) = strs st.od ++ [.string x] from List.map_append];exact r0.keep (fun k _ hc => hk k (fun e => by rw [e,cB6] at hc;omega)) (fun _ _ => rfl)),h3.keep (fun k h1 hc => (hk k (fun e => by rw [e,cB] at hc;omega)).trans (r2 k h1 (by omega))) r1,h4.keep (fun k h1 hc => (hk k (fun e => by rw [e,cB] at hc;omega)).trans (r2 k h1 (by omega))) r1,h5.keep (fun k h1 hc => (hk k (fun e => by rw [e,cB] at hc;omega)).trans (r2 k h1 (by omega))) r1⟩,?_⟩
 ·rcases hm with hm | ⟨bm,n,e,hc,hn,hm⟩
  ·exact Or.inl hm
  ·exact Or.inr ⟨bm,n,e,(r1 bm hm.lt).trans hc,hn,hm.keep ((hk bm (fun e => by rw [e,cB] at hc;omega)).trans (r2 bm hm.lt (by omega)))⟩
 ·exact ⟨xo,xt,xu,by omega,r1,fun k h1 h0 => (hk k (fun e => by rw [e,cB] at h0;omega)).trans (r2 k h1 (by omega))⟩
theorem WS.addBk {w w6:World} {B P M:Nat} {fv:Value} {col:Nat → Nat} {st:WK} (h:WS w B P M fv col st) {lv:Option Nat} {oa ba sa ca:Option Addr} {oc bc sc cc:Nat} (hB:w.heap[B]? = some (wkO P lv oa st.od.length oc ba st.bk.length bc st.lp st.lc sa st.sl.length sc ca st.cl.length cc st.e)) (hP:w.heap[P]? = some (pgO fv M st.sp)) (hm:MapAt w col lv st.lm st.ct)
  (h2:RowAt w col 2 9 oa oc (strs st.od)) (h3:RowAt w col 3 3 ba bc (nms st.bk)) (h4:RowAt w col 4 3 sa sc (nms st.sl)) (h5:RowAt w col 5 3 ca cc (nms st.cl)) (ob:Obj) {g' cap':Nat} {x:Int}
  (ho:w6.ownsRow 0 3 1 (.slice (some ⟨g',0,none⟩) (st.bk.length + 1) cap') (st.bk.length + 1) (nms st.bk ++ [.int .i64 x])) (hgw:(w.alloc ob).grownBy w6 (Value.slice ba st.bk.length bc).ownBlock) (hw:(Value.slice ba st.bk.length bc).ownBlock = some g' ∨ (w.alloc ob).heap.size ≤ g') :
  WS (w6.setCell ⟨B,3,none⟩ (.slice (some ⟨g',0,none⟩) (st.bk.length + 1) cap')) B P M fv (hued col g' 3) { st with bk:=st.bk ++ [x] } ∧ Wk col (hued col g' 3) w (w6.setCell ⟨B,3,none⟩ (.slice (some ⟨g',0,none⟩) (st.bk.length + 1) cap')):=by
 have e0:(nms st.bk).length = st.bk.length:=List.length_map _
 obtain ⟨r0,r1,r2,r3,r4⟩:=h3.append h.fresh ob (g':=g') (cap':=cap') (u:=.int .i64 x) (by rw [e0];exact ho) (by rw [e0];exact hgw) (by rw [e0];exact hw)
 have lB:=(Array.getElem?_eq_some_iff.1 hB).1
 have lP:=(Array.getElem?_eq_some_iff.1 hP).1
 have cB:=h.cB
 have cP:=h.cP
 have cB6:hued col g' 3 B = 6:=(r1 B lB).trans cB
 have cP7:hued col g' 3 P = 7:=(r1 P lP).trans cP
 have hz:(w6.setCell ⟨B,3,none⟩ (.slice (some ⟨g',0,none⟩) (st.bk.length + 1) cap')).heap.size = w6.heap.size:=by simp [World.setCell]
 have hk:∀ k,k ≠ B → (w6.setCell ⟨B,3,none⟩ (.slice (some ⟨g',0,none⟩) (st.bk.length + 1) cap')).heap[k]? = w6.heap[k]?:=fun k hk => Below.heap_setCell _ _ _ _ hk
 have hr:=row_set (w:=w6) ((r2 B lB (by omega)).trans hB) 3 (.slice (some ⟨g',0,none⟩) (st.bk.length + 1) cap')
 have xo:(w6.setCell ⟨B,3,none⟩ (.slice (some ⟨g',0,none⟩) (st.bk.length + 1) cap')).os = w.os:=hgw.os
 have xt:(w6.setCell ⟨B,3,none⟩ (.slice (some ⟨g',0,none⟩) (st.bk.length + 1) cap')).tape = w.tape:=hgw.tape
 have xu:(w6.setCell ⟨B,3,none⟩ (.slice (some ⟨g',0,none⟩) (st.bk.length + 1) cap')).output = w.output:=hgw.output
 generalize w6.setCell ⟨B,3,none⟩ (.slice (some ⟨g',0,none⟩) (st.bk.length + 1) cap') = W at *
 have hln:(st.bk ++ [x]).length = st.bk.length + 1:=by simp
 refine ⟨⟨fun k h1 => r3 k (by omega),cB6,cP7,lv,oa,(some ⟨g',0,none⟩),sa,ca,oc,cap',sc,cc,by show W.heap[B]? = some (wkO P lv oa st.od.length oc (some ⟨g',0,none⟩) (st.bk ++ [x]).length cap' st.lp st.lc sa st.sl.length sc ca st.cl.length cc st.e);rw [hln];simpa only [List.setIfInBounds_toArray,List.set_cons_zero,List.set_cons_succ] using hr,(hk P (fun e => by rw [e,cB] at cP;omega)).trans ((r2 P lP (by omega)).trans hP),?_,h2.keep (fun k h1 hc => (hk k (fun e => by rw [e,cB] at hc;omega)).trans (r2 k h1 (by omega))) r1,(show RowAt W (hued col g' 3) 3 3 (some ⟨g',0,none⟩) cap' (nms (st.bk ++ [x])) from by rw [show nms (st.bk ++ [x]) = nms st.bk ++ [.int .i64 x] from List.map_append];exact r0.keep (fun k _ hc => hk k (fun e => by rw [e,cB6] at hc;omega)) (fun _ _ => rfl)),h4.keep (fun k h1 hc => (hk k (fun e => by rw [e,cB] at hc;omega)).trans (r2 k h1 (by omega))) r1,h5.keep (fun k h1 hc => (hk k (fun e => by rw [e,cB] at hc;omega)).trans (r2 k h1 (by omega))) r1⟩,?_⟩
 ·rcases hm with hm | ⟨bm,n,e,hc,hn,hm⟩
  ·exact Or.inl hm
  ·exact Or.inr ⟨bm,n,e,(r1 bm hm.lt).trans hc,hn,hm.keep ((hk bm (fun e => by rw [e,cB] at hc;omega)).trans (r2 bm hm.lt (by omega)))⟩
 ·exact ⟨xo,xt,xu,by omega,r1,fun k h1 h0 => (hk k (fun e => by rw [e,cB] at h0;omega)).trans (r2 k h1 (by omega))⟩
theorem WS.addSl {w w6:World} {B P M:Nat} {fv:Value} {col:Nat → Nat} {st:WK} (h:WS w B P M fv col st) {lv:Option Nat} {oa ba sa ca:Option Addr} {oc bc sc cc:Nat} (hB:w.heap[B]? = some (wkO P lv oa st.od.length oc ba st.bk.length bc st.lp st.lc sa st.sl.length sc ca st.cl.length cc st.e)) (hP:w.heap[P]? = some (pgO fv M st.sp)) (hm:MapAt w col lv st.lm st.ct)
  (h2:RowAt w col 2 9 oa oc (strs st.od)) (h3:RowAt w col 3 3 ba bc (nms st.bk)) (h4:RowAt w col 4 3 sa sc (nms st.sl)) (h5:RowAt w col 5 3 ca cc (nms st.cl)) (ob:Obj) {g' cap':Nat} {x:Int}
  (ho:w6.ownsRow 0 3 1 (.slice (some ⟨g',0,none⟩) (st.sl.length + 1) cap') (st.sl.length + 1) (nms st.sl ++ [.int .i64 x])) (hgw:(w.alloc ob).grownBy w6 (Value.slice sa st.sl.length sc).ownBlock) (hw:(Value.slice sa st.sl.length sc).ownBlock = some g' ∨ (w.alloc ob).heap.size ≤ g') :
  WS (w6.setCell ⟨B,6,none⟩ (.slice (some ⟨g',0,none⟩) (st.sl.length + 1) cap')) B P M fv (hued col g' 4) { st with sl:=st.sl ++ [x] } ∧ Wk col (hued col g' 4) w (w6.setCell ⟨B,6,none⟩ (.slice (some ⟨g',0,none⟩) (st.sl.length + 1) cap')):=by
 have e0:(nms st.sl).length = st.sl.length:=List.length_map _
 obtain ⟨r0,r1,r2,r3,r4⟩:=h4.append h.fresh ob (g':=g') (cap':=cap') (u:=.int .i64 x) (by rw [e0];exact ho) (by rw [e0];exact hgw) (by rw [e0];exact hw)
 have lB:=(Array.getElem?_eq_some_iff.1 hB).1
 have lP:=(Array.getElem?_eq_some_iff.1 hP).1
 have cB:=h.cB
 have cP:=h.cP
 have cB6:hued col g' 4 B = 6:=(r1 B lB).trans cB
 have cP7:hued col g' 4 P = 7:=(r1 P lP).trans cP
 have hz:(w6.setCell ⟨B,6,none⟩ (.slice (some ⟨g',0,none⟩) (st.sl.length + 1) cap')).heap.size = w6.heap.size:=by simp [World.setCell]
 have hk:∀ k,k ≠ B → (w6.setCell ⟨B,6,none⟩ (.slice (some ⟨g',0,none⟩) (st.sl.length + 1) cap')).heap[k]? = w6.heap[k]?:=fun k hk => Below.heap_setCell _ _ _ _ hk
 have hr:=row_set (w:=w6) ((r2 B lB (by omega)).trans hB) 6 (.slice (some ⟨g',0,none⟩) (st.sl.length + 1) cap')
 have xo:(w6.setCell ⟨B,6,none⟩ (.slice (some ⟨g',0,none⟩) (st.sl.length + 1) cap')).os = w.os:=hgw.os
 have xt:(w6.setCell ⟨B,6,none⟩ (.slice (some ⟨g',0,none⟩) (st.sl.length + 1) cap')).tape = w.tape:=hgw.tape
 have xu:(w6.setCell ⟨B,6,none⟩ (.slice (some ⟨g',0,none⟩) (st.sl.length + 1) cap')).output = w.output:=hgw.output
 generalize w6.setCell ⟨B,6,none⟩ (.slice (some ⟨g',0,none⟩) (st.sl.length + 1) cap') = W at *
 have hln:(st.sl ++ [x]).length = st.sl.length + 1:=by simp
 refine ⟨⟨fun k h1 => r3 k (by omega),cB6,cP7,lv,oa,ba,(some ⟨g',0,none⟩),ca,oc,bc,cap',cc,by show W.heap[B]? = some (wkO P lv oa st.od.length oc ba st.bk.length bc st.lp st.lc (some ⟨g',0,none⟩) (st.sl ++ [x]).length cap' ca st.cl.length cc st.e);rw [hln];simpa only [List.setIfInBounds_toArray,List.set_cons_zero,List.set_cons_succ] using hr,(hk P (fun e => by rw [e,cB] at cP;omega)).trans ((r2 P lP (by omega)).trans hP),?_,h2.keep (fun k h1 hc => (hk k (fun e => by rw [e,cB] at hc;omega)).trans (r2 k h1 (by omega))) r1,h3.keep (fun k h1 hc => (hk k (fun e => by rw [e,cB] at hc;omega)).trans (r2 k h1 (by omega))) r1,(show RowAt W (hued col g' 4) 4 3 (some ⟨g',0,none⟩) cap' (nms (st.sl ++ [x])) from by rw [show nms (st.sl ++ [x]) = nms st.sl ++ [.int .i64 x] from List.map_append];exact r0.keep (fun k _ hc => hk k (fun e => by rw [e,cB6] at hc;omega)) (fun _ _ => rfl)),h5.keep (fun k h1 hc => (hk k (fun e => by rw [e,cB] at hc;omega)).trans (r2 k h1 (by omega))) r1⟩,?_⟩
 ·rcases hm with hm | ⟨bm,n,e,hc,hn,hm⟩
  ·exact Or.inl hm
  ·exact Or.inr ⟨bm,n,e,(r1 bm hm.lt).trans hc,hn,hm.keep ((hk bm (fun e => by rw [e,cB] at hc;omega)).trans (r2 bm hm.lt (by omega)))⟩
 ·exact ⟨xo,xt,xu,by omega,r1,fun k h1 h0 => (hk k (fun e => by rw [e,cB] at h0;omega)).trans (r2 k h1 (by omega))⟩
theorem WS.addCl {w w6:World} {B P M:Nat} {fv:Value} {col:Nat → Nat} {st:WK} (h:WS w B P M fv col st) {lv:Option Nat} {oa ba sa ca:Option Addr} {oc bc sc cc:Nat} (hB:w.heap[B]? = some (wkO P lv oa st.od.length oc ba st.bk.length bc st.lp st.lc sa st.sl.length sc ca st.cl.length cc st.e)) (hP:w.heap[P]? = some (pgO fv M st.sp)) (hm:MapAt w col lv st.lm st.ct)
  (h2:RowAt w col 2 9 oa oc (strs st.od)) (h3:RowAt w col 3 3 ba bc (nms st.bk)) (h4:RowAt w col 4 3 sa sc (nms st.sl)) (h5:RowAt w col 5 3 ca cc (nms st.cl)) (ob:Obj) {g' cap':Nat} {x:Int}
  (ho:w6.ownsRow 0 3 1 (.slice (some ⟨g',0,none⟩) (st.cl.length + 1) cap') (st.cl.length + 1) (nms st.cl ++ [.int .i64 x])) (hgw:(w.alloc ob).grownBy w6 (Value.slice ca st.cl.length cc).ownBlock) (hw:(Value.slice ca st.cl.length cc).ownBlock = some g' ∨ (w.alloc ob).heap.size ≤ g') :
  WS (w6.setCell ⟨B,7,none⟩ (.slice (some ⟨g',0,none⟩) (st.cl.length + 1) cap')) B P M fv (hued col g' 5) { st with cl:=st.cl ++ [x] } ∧ Wk col (hued col g' 5) w (w6.setCell ⟨B,7,none⟩ (.slice (some ⟨g',0,none⟩) (st.cl.length + 1) cap')):=by
 have e0:(nms st.cl).length = st.cl.length:=List.length_map _
 obtain ⟨r0,r1,r2,r3,r4⟩:=h5.append h.fresh ob (g':=g') (cap':=cap') (u:=.int .i64 x) (by rw [e0];exact ho) (by rw [e0];exact hgw) (by rw [e0];exact hw)
 have lB:=(Array.getElem?_eq_some_iff.1 hB).1
 have lP:=(Array.getElem?_eq_some_iff.1 hP).1
 have cB:=h.cB
 have cP:=h.cP
 have cB6:hued col g' 5 B = 6:=(r1 B lB).trans cB
 have cP7:hued col g' 5 P = 7:=(r1 P lP).trans cP
 have hz:(w6.setCell ⟨B,7,none⟩ (.slice (some ⟨g',0,none⟩) (st.cl.length + 1) cap')).heap.size = w6.heap.size:=by simp [World.setCell]
 have hk:∀ k,k ≠ B → (w6.setCell ⟨B,7,none⟩ (.slice (some ⟨g',0,none⟩) (st.cl.length + 1) cap')).heap[k]? = w6.heap[k]?:=fun k hk => Below.heap_setCell _ _ _ _ hk
 have hr:=row_set (w:=w6) ((r2 B lB (by omega)).trans hB) 7 (.slice (some ⟨g',0,none⟩) (st.cl.length + 1) cap')
 have xo:(w6.setCell ⟨B,7,none⟩ (.slice (some ⟨g',0,none⟩) (st.cl.length + 1) cap')).os = w.os:=hgw.os
 have xt:(w6.setCell ⟨B,7,none⟩ (.slice (some ⟨g',0,none⟩) (st.cl.length + 1) cap')).tape = w.tape:=hgw.tape
 have xu:(w6.setCell ⟨B,7,none⟩ (.slice (some ⟨g',0,none⟩) (st.cl.length + 1) cap')).output = w.output:=hgw.output
 generalize w6.setCell ⟨B,7,none⟩ (.slice (some ⟨g',0,none⟩) (st.cl.length + 1) cap') = W at *
 have hln:(st.cl ++ [x]).length = st.cl.length + 1:=by simp
 refine ⟨⟨fun k h1 => r3 k (by omega),cB6,cP7,lv,oa,ba,sa,(some ⟨g',0,none⟩),oc,bc,sc,cap',by show W.heap[B]? = some (wkO P lv oa st.od.length oc ba st.bk.length bc st.lp st.lc sa st.sl.length sc (some ⟨g',0,none⟩) (st.cl ++ [x]).length cap' st.e);rw [hln];simpa only [List.setIfInBounds_toArray,List.set_cons_zero,List.set_cons_succ] using hr,(hk P (fun e => by rw [e,cB] at cP;omega)).trans ((r2 P lP (by omega)).trans hP),?_,h2.keep (fun k h1 hc => (hk k (fun e => by rw [e,cB] at hc;omega)).trans (r2 k h1 (by omega))) r1,h3.keep (fun k h1 hc => (hk k (fun e => by rw [e,cB] at hc;omega)).trans (r2 k h1 (by omega))) r1,h4.keep (fun k h1 hc => (hk k (fun e => by rw [e,cB] at hc;omega)).trans (r2 k h1 (by omega))) r1,(show RowAt W (hued col g' 5) 5 3 (some ⟨g',0,none⟩) cap' (nms (st.cl ++ [x])) from by rw [show nms (st.cl ++ [x]) = nms st.cl ++ [.int .i64 x] from List.map_append];exact r0.keep (fun k _ hc => hk k (fun e => by rw [e,cB6] at hc;omega)) (fun _ _ => rfl))⟩,?_⟩
 ·rcases hm with hm | ⟨bm,n,e,hc,hn,hm⟩
  ·exact Or.inl hm
  ·exact Or.inr ⟨bm,n,e,(r1 bm hm.lt).trans hc,hn,hm.keep ((hk bm (fun e => by rw [e,cB] at hc;omega)).trans (r2 bm hm.lt (by omega)))⟩
 ·exact ⟨xo,xt,xu,by omega,r1,fun k h1 h0 => (hk k (fun e => by rw [e,cB] at h0;omega)).trans (r2 k h1 (by omega))⟩
end Go.Proofs.YtgkdmgndebifiaaGreatDoor
namespace Go.Proofs.YtgkdmgndebifiaaGreatDoor
open Go.RowKit Go.Maps
theorem WS.up {w:World} {B P M:Nat} {fv:Value} {col col':Nat → Nat} {st:WK} {w0:World} (h:WS w B P M fv col' st) (k:Wk col col' w0 w):Walks B P M fv col w0 st (.returned (.tuple #[])) w:=⟨rfl,col',h,k⟩
set_option maxHeartbeats 1000000 in
theorem fail_w (B P M:Nat) (fv:Value) (col:Nat → Nat) (st:WK) (c:Int) (w:World) (h:WS w B P M fv col st) :
  Calls Tryz.prog 41 #[.pointer (some ⟨B,0,none⟩),.int .i64 c] w (Walks B P M fv col w (st.fail c)):=by
 have hE:=h.setE c
 have HE:=hide hE
 have HS:=hide h
 obtain ⟨lv,oa,ba,sa,ca,oc,bc,sc,cc,hB,hP,hm,h2,h3,h4,h5⟩:=h.ex
 have c8:=rowC hB 8 rfl
 have zf:=rowF hB
 clear h hE hB hP hm h2 h3 h4 h5
 unfold WK.fail
 by_cases he:st.e = 0
 ·rw [if_pos he]
  have he2:(st.e == 0) = true:=by simp [he]
  have c8:w.cell? ⟨B,8,none⟩ = some (.int .i64 st.e):=c8
  clear he
  go_enter Tryz.func41,Tryz.ntmps41
  go_wp2_with fail
  go_end0
  exact (unhide HE).1.up (unhide HE).2
 ·rw [if_neg he]
  have he2:(st.e == 0) = false:=by simpa using he
  have c8:w.cell? ⟨B,8,none⟩ = some (.int .i64 st.e):=c8
  clear he
  go_enter Tryz.func41,Tryz.ntmps41
  go_wp2_with fail
  go_end0
  exact (unhide HS).up (Wk.refl _ _)
set_option maxHeartbeats 1000000 in
theorem leave_w (B P M:Nat) (fv:Value) (col:Nat → Nat) (st:WK) (w:World) (h:WS w B P M fv col st) :
  Calls Tryz.prog 69 #[.pointer (some ⟨B,0,none⟩)] w (Walks B P M fv col w st.leave):=by
 have HF:=hide (fail_w B P M fv col st 11 w h)
 have HS:=hide h
 obtain ⟨lv,oa,ba,sa,ca,oc,bc,sc,cc,hB,hP,hm,h2,h3,h4,h5⟩:=h.ex
 have c4:w.cell? ⟨B,4,none⟩ = some (.int .i64 st.lp):=rowC hB 4 rfl
 clear h hB hP hm h2 h3 h4 h5
 unfold WK.leave
 by_cases he:st.lp = 0
 ·rw [if_pos he]
  have he2:(st.lp == 0) = true:=by simp [he]
  clear he
  go_enter Tryz.func69,Tryz.ntmps69
  go_wp2_with (go_at_call 41;refine Calls.mono (unhide HF) ?_;rintro e w1 ⟨rfl,hw⟩;have X:=hide hw;clear hw)
  go_end0
  obtain ⟨col',a,b⟩:=unhide X
  exact a.up b
 ·rw [if_neg he]
  have he2:(st.lp == 0) = false:=by simpa using he
  clear he
  go_enter Tryz.func69,Tryz.ntmps69
  go_wp2_with fail
  go_end0
  exact (unhide HS).up (Wk.refl _ _)
theorem small_le {s:ByteArray} (h:small s = true):s.size ≤ 1000000:=of_decide_eq_true h
theorem small_key {s:ByteArray} (h:small s = true):keyOf Tryz.prog 9 (.string s) = some (kyS s) :=
 WideMaps.keyOf_string_mk Tryz.underlying9 (by have:=small_le h;unfold maxLen;omega)
theorem look_run {w:World} {bm n:Nat} {lm:List (ByteArray × Int)} (h:MapIs w bm n lm) {s:ByteArray} (hs:small s = true) :
  ∃ c:Int,(Instr.lookup 98 (.map (some bm)) (.string s) true).run Tryz.prog w = .ok (.tuple #[.int .i64 c,.bool (lkp lm s).isSome]) w ∧ ∀ v,lkp lm s = some v → c = v:=by
 obtain ⟨D,ho,hx⟩:=h
 obtain ⟨v,ps,hrun,hv⟩:=ho.look_ok keyS Tryz.underlying98 (zeroI w) (plainElem_int Tryz.underlying3 (by decide)) (small_key hs)
 obtain ⟨c,rfl,hc,hwc⟩:=plainElem_int_inv Tryz.underlying3 hv
 rw [(hx s).1] at hrun
 refine ⟨c,hrun,fun v h => ?_⟩
 have h1:=(hx s).2 v h
 have h2:=congrArg Prod.fst hc
 have h3:(DataW.lit (Lit.int .i64 v):DataW Unit) = .lit (.int .i64 c):=h1.symm.trans h2
 injection h3 with h3
 injection h3 with _ h3
 exact h3.symm
theorem look_at {w:World} {col:Nat → Nat} {lv:Option Nat} {lm:List (ByteArray × Int)} {ct:Nat} (h:MapAt w col lv lm ct) {s:ByteArray} (hs:small s = true) :
  ∃ c:Int,(Instr.lookup 98 (.map lv) (.string s) true).run Tryz.prog w = .ok (.tuple #[.int .i64 c,.bool (lkp lm s).isSome]) w ∧ ∀ v,lkp lm s = some v → c = v:=by
 rcases h with ⟨rfl,rfl⟩ | ⟨bm,n,rfl,hc,hn,hm⟩
 ·exact ⟨0,Maps.look_nil true keyS Tryz.underlying98 (zeroI w) (small_key hs),fun v h => by cases h⟩
 ·exact look_run hm hs
set_option maxHeartbeats 1000000 in
theorem find_w (B P M:Nat) (fv:Value) (col:Nat → Nat) (st:WK) (s:ByteArray) (w:World) (h:WS w B P M fv col st) (hs:small s = true) :
  Calls Tryz.prog 93 #[.pointer (some ⟨B,1,none⟩),.string s] w fun e w' => (∃ c:Int,e = .returned (.tuple #[.int .i64 c,.bool (lkp st.lm s).isSome]) ∧ ∀ v,lkp st.lm s = some v → c = v) ∧ w' = w:=by
 obtain ⟨lv,oa,ba,sa,ca,oc,bc,sc,cc,hB,hP,hm,h2,h3,h4,h5⟩:=h.ex
 have c1:w.cell? ⟨B,1,none⟩ = some (.map lv):=rowC hB 1 rfl
 obtain ⟨c,hrun,hv⟩:=look_at hm hs
 have HV:=hide hv
 clear h hB hP h2 h3 h4 h5 hm hv
 go_enter Tryz.func93,Tryz.ntmps93
 go_wp2_with fail
 exact bodyPost_ret (v:=.tuple #[.int .i64 c,.bool (lkp st.lm s).isSome]) (by simp [results,Tryz.results93]) rfl ⟨⟨c,rfl,unhide HV⟩,rfl⟩
theorem infoIS:(Tryz.prog.info? 3).map (fun i => (i.zero,i.size,i.bytes)) = some (some (.int .i64 0),1,8):=by kernel_rfl
theorem one_intS (x:Int):∀ u ∈ ([.int .i64 x]:List Value),u.oneCell' = true:=by
 intro u hu
 simp at hu
 subst hu
 rfl
set_option maxHeartbeats 1000000 in
theorem use_w (B P M:Nat) (fv:Value) (col:Nat → Nat) (st:WK) (s:ByteArray) (w:World) (h:WS w B P M fv col st) (hs:small s = true) (hb:st.sl.length ≤ 10000000) :
  Calls Tryz.prog 67 #[.pointer (some ⟨B,0,none⟩),.string s] w (Walks B P M fv col w (st.use s)):=by
 have HN:=hide (find_w B P M fv col st s w h hs)
 have HF:=hide (fail_w B P M fv col st 11 w h)
 have HS:=hide h
 unfold WK.use
 cases hl:lkp st.lm s with
 | none =>
  rw [hl] at HN
  simp only [Option.isSome_none] at HN
  clear h
  go_enter Tryz.func67,Tryz.ntmps67
  go_wp2_with (first
   | (go_at_call 93;refine Calls.mono (unhide HN) ?_;rintro e w1 ⟨⟨c,rfl,hv⟩,rfl⟩;clear hv)
   | (go_at_call 41;refine Calls.mono (unhide HF) ?_;rintro e w2 ⟨rfl,hw⟩;have X:=hide hw;clear hw))
  go_end0
  obtain ⟨col',a,b⟩:=unhide X
  exact a.up b
 | some v =>
  rw [hl] at HN
  simp only [Option.isSome_some] at HN
  obtain ⟨lv,oa,ba,sa,ca,oc,bc,sc,cc,hB,hP,hm,h2,h3,h4,h5⟩:=h.ex
  have c6:w.cell? ⟨B,6,none⟩ = some (.slice sa st.sl.length sc):=rowC hB 6 rfl
  have zf:=rowF hB
  have lB:=(Array.getElem?_eq_some_iff.1 hB).1
  have HU:=hide (fun (w6:World) (ob:Obj) (g' cap':Nat) => h.addSl (w6:=w6) hB hP hm h2 h3 h4 h5 ob (g':=g') (cap':=cap') (x:=v))
  have e0:(nms st.sl).length = st.sl.length:=List.length_map _
  have ho:w.ownsRow 0 3 1 (.slice sa st.sl.length sc) st.sl.length (nms st.sl):=by have:=h4.own;rw [e0] at this;exact this
  have HO:=hide (fun ob => ho.alloc ob)
  have RB:=hide hB
  have hown:=h4.hue
  rw [e0] at hown
  have cB:=h.cB
  have HW:=hide hown
  obtain ⟨i0,hi,hz0,hz1,hz2⟩:=info_parts infoIS
  have HI:=hide hi
  have Z0:=hide hz0
  have Z1:=hide hz1
  have Z2:=hide hz2
  clear hi hz0 hz1 hz2 h hB hP hm h2 h3 h4 h5 e0 hown ho HF
  go_enter Tryz.func67,Tryz.ntmps67
  go_wp2_with (first
   | (go_at_call 93;refine Calls.mono (unhide HN) ?_;rintro e w1 ⟨⟨c,rfl,hv⟩,rfl⟩;obtain rfl:=hv v rfl;clear hv)
   | (at_builtin;refine wpList_append_where rfl (.tmp 23) (.tmp 25) 40 rfl 0 3 i0 (.int .i64 0) 1 8 Tryz.underlying40 (unhide HI) (unhide Z0) (unhide Z1) (unhide Z2) rfl (by decide) sa st.sl.length sc (nms st.sl) rfl (unhide HO _) ⟨w1.heap.size,0,none⟩ 1 1 [.int .i64 c] rfl (by decide) rfl (cells_new w1 _ _) (one_intS _) ?c1 ?c2 (Nat.zero_le _) ?_))
  case c1 => unfold maxLen;omega
  case c2 => omega
  intro g' cap' w6 ho6 hg6 hw6
  have RZ:=(hg6.block B (by simp;omega) (fun e => by have:=unhide HW B e.symm;omega)).trans ((Ext.alloc _ _).row (unhide RB))
  have z6:=rowC RZ 6 rfl
  have zz:=rowF RZ
  have HR:=hide (unhide HU w6 _ g' cap' ho6 hg6 (by rw [size_alloc];exact hw6))
  clear ho6 hg6 hw6 RZ
  go_wp2_with fail
  go_end0
  exact (unhide HR).1.up (unhide HR).2
theorem Wk.drewTo {col col':Nat → Nat} {w w':World} (h:Wk col col' w.drew w'):Wk col col' w w':=⟨h.os,h.tape,h.output,h.size,h.same,h.keep⟩
set_option maxHeartbeats 1000000 in
theorem step_w (B P M:Nat) (fv:Value) (col:Nat → Nat) (st:WK) (s:ByteArray) (nb no:Nat) (w:World) (h:WS w B P M fv col st) (hs:small s = true) (hn:w.cell? ⟨nb,no + 2,none⟩ = some (.string s)) :
  Calls Tryz.prog 66 #[.pointer (some ⟨B,0,none⟩),.pointer (some ⟨nb,no,none⟩)] w (Walks B P M fv col w (st.step s.size)):=by
 have hsz:=small_le hs
 unfold WK.step
 obtain ⟨N,hN⟩:∃ N,N = wrap64 (st.sp + (1 + (s.size:Int) / 4000)):=⟨_,rfl⟩
 have HU:=hide (h.setSp N)
 obtain ⟨lv,oa,ba,sa,ca,oc,bc,sc,cc,hB,hP,hm,h2,h3,h4,h5⟩:=h.ex
 have c0:w.cell? ⟨B,0,none⟩ = some (.pointer (some ⟨P,0,none⟩)):=rowC hB 0 rfl
 have p2:w.cell? ⟨P,2,none⟩ = some (.int .i64 st.sp):=rowC hP 2 rfl
 have zf:=rowF hP
 have HN:=hide hN
 rw [← hN]
 clear h hB hP hm h2 h3 h4 h5 hs hN
 go_enter Tryz.func66,Tryz.ntmps66
 go_wp2_with fail
 refine wp_nrm ?_
 first | skip;go_region | fail
 all_goals
  simp only [Nrm]
  rw [← unhide HN]
  refine gen_world (F:=fun W => Exit.then _ _ Exit.normal _ W) ?_
  intro W hW
  have HW:Hd (WS W B P M fv col { st with sp:=N } ∧ Wk col col w W):=by
   rw [hW]
   exact ⟨(unhide HU).1.ext (Ext.drew (Ext.refl _)),(unhide HU).2.trans (Wk.ext (Ext.drew (Ext.refl _)))⟩
  have q2:W.cell? ⟨P,2,none⟩ = some (.int .i64 N):=by
   obtain ⟨_,_,_,_,_,_,_,_,_,_,hP,_⟩:=(unhide HW).1.ex
   exact rowC hP 2 rfl
  clear hW p2 HU c0
  have HF:=hide (fail_w B P M fv col { st with sp:=N } 65 W (unhide HW).1)
  by_cases hgt:4194304 < N
  ·have E:=hide (show st.stepTo N = WK.fail { st with sp:=N } 65 by unfold WK.stepTo;rw [if_pos hgt])
   go_wp2_with (go_at_call 41;refine Calls.mono (unhide HF) ?_;rintro e w1 ⟨rfl,hw⟩;have X:=hide hw;clear hw)
   go_end0
   obtain ⟨col',a,b⟩:=unhide X
   rw [unhide E]
   exact a.up ((unhide HW).2.trans b)
  ·have E:=hide (show st.stepTo N = { st with sp:=N } by unfold WK.stepTo;rw [if_neg hgt])
   go_wp2_with fail
   go_end0
   rw [unhide E]
   exact (unhide HW).1.up (unhide HW).2
set_option maxHeartbeats 1000000 in
theorem open_w (B P M:Nat) (fv:Value) (col:Nat → Nat) (st:WK) (w:World) (h:WS w B P M fv col st) (hb:st.bk.length ≤ 10000000) :
  Calls Tryz.prog 68 #[.pointer (some ⟨B,1,none⟩)] w (Walks B P M fv col w st.opn):=by
 unfold WK.opn
 have hd:WS w.drew B P M fv col st:=h.ext (Ext.drew (Ext.refl _))
 obtain ⟨lv,oa,ba,sa,ca,oc,bc,sc,cc,hB,hP,hm,h2,h3,h4,h5⟩:=hd.ex
 have c2:w.cell? ⟨B,2,none⟩ = some (.slice oa st.od.length oc):=rowC hB 2 rfl
 have c3:w.cell? ⟨B,3,none⟩ = some (.slice ba st.bk.length bc):=rowC hB 3 rfl
 have lB:B < w.heap.size:=(Array.getElem?_eq_some_iff.1 hB).1
 have HU:=hide (fun (w6:World) (ob:Obj) (g' cap':Nat) => hd.addBk (w6:=w6) hB hP hm h2 h3 h4 h5 ob (g':=g') (cap':=cap') (x:=(st.od.length:Int)))
 have e0:(nms st.bk).length = st.bk.length:=List.length_map _
 have ho:w.drew.ownsRow 0 3 1 (.slice ba st.bk.length bc) st.bk.length (nms st.bk):=by have:=h3.own;rw [e0] at this;exact this
 have HO:=hide (fun ob => ho.alloc ob)
 have RB:=hide hB
 have hown:=h3.hue
 rw [e0] at hown
 have cB:=h.cB
 have HW:=hide hown
 obtain ⟨i0,hi,hz0,hz1,hz2⟩:=info_parts infoIS
 have HI:=hide hi
 have Z0:=hide hz0
 have Z1:=hide hz1
 have Z2:=hide hz2
 clear hi hz0 hz1 hz2 h hd hB hP hm h2 h3 h4 h5 e0 hown ho
 go_enter Tryz.func68,Tryz.ntmps68
 go_wp2_with fail
 refine wp_nrm ?_
 first | skip;go_region_law (refine step_append_where rfl (.tmp 6) (.tmp 12) 40 rfl 0 3 i0 (.int .i64 0) 1 8 Tryz.underlying40 (unhide HI) (unhide Z0) (unhide Z1) (unhide Z2) rfl (by decide) ba st.bk.length bc (nms st.bk) (by simp [Act.eval,Act.put]) (unhide HO _) ⟨w.drew.heap.size,0,none⟩ 1 1 [.int .i64 (st.od.length:Int)] (by simp [Act.eval,Act.put]) (by decide) rfl (cells_new w.drew _ _) (one_intS _) (by unfold maxLen;omega) (by omega) (Nat.zero_le _) ?_;intro g2 cap6 w6 ho6 hg6 hw6;have RZ:=(hg6.block B (by simp;omega) (fun e => by have:=unhide HW B e.symm;omega)).trans ((Ext.alloc _ _).row (unhide RB));have z3:=rowC RZ 3 rfl;have zz:=rowF RZ;have HR:=hide (unhide HU w6 _ g2 cap6 ho6 hg6 hw6);clear ho6 hg6 hw6 RZ) | fail
 all_goals
  simp only [Nrm]
  go_wp2_with fail
  go_end0
  exact (unhide HR).1.up (unhide HR).2.drewTo
end Go.Proofs.YtgkdmgndebifiaaGreatDoor
