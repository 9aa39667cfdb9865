/- Any tree that was read: scope's way finds what the document's finds;functions;all of them. · What Check tells of functions that were read is what the document tells. · How much the document's way through a tree adds at most. · The document's checker of a function,as it lies in memory. -/
import Derived.Test.YtgkdmgndebifiaaGreatDoorZd41
import Derived.Test.YtgkdmgndebifiaaGreatDoorZd31
set_option linter.unusedSimpArgs false
set_option linter.unusedVariables false
set_option maxRecDepth 10000
namespace Go.Proofs.YtgkdmgndebifiaaGreatDoor
open Go.RowKit Go.Maps
variable {nm:List (ByteArray × Int)} {fs:List PFn}
theorem sim_all (hnm:nums fs 0 [] = some nm):∀ (F:Nat) (p:PN) (dl:Int),nsz p ≤ F → gX p → (dl = 0 ∨ nX p) → SimOf nm fs F p dl:=by
 intro F
 induction F with
 | zero => intro p dl h;have:=nsz_pos p;omega
 | succ F ih =>
  intro p dl hF hg hd st d h he hl0 hdl hlp hlc hsp
  obtain ⟨hsz,hw4,hw5⟩:=hg.props
  have hp1:=nsz_pos p
  have hnp:nsz p = 1 + nszL p.l:=by cases p;rw [nsz]
  obtain ⟨x,hst,hx1,hx2⟩:=step_ok (st:=st) hsz h.sp0 (by omega)
  have h1:RK { st with sp:=x } d dl:=⟨h.e,h.lm,h.od,h.lp,h.lc,h.sl,h.cl,h.dis,h.lc0,by have:=h.sp0;show 0 ≤ x;omega⟩
  have hone:∀ y ∈ p.l,SimOf nm fs F y dl:=fun y hy => ih y dl (by have:=nszL_mem hy;omega) (hg.sub hy) (hd.imp id (fun hn => hn.sub hy))
  have hsm:∀ y ∈ p.l,small y.s = true:=fun y hy => small_of (hg.sub hy).props.1
  rw [dW,if_neg (by simp [he])]
  by_cases h4:p.k = 4
  ·obtain ⟨c,b,hl,hc⟩:=hw4 h4
   have hd0:dl = 0:=hd.elim id (fun hn => absurd h4 hn.props.1)
   subst hd0
   have hb0:st.bgn p = { st with sp:=x,lp:=wrap64 (st.lp + 1) }:=by
    unfold WK.bgn
    rw [hst,if_neg (by rw [h4];decide),if_neg (by rw [h4];decide),if_pos h4]
   have hlpe:=h.lp
   have hwl:wrap64 (st.lp + 1) = d.lp + 1:=by rw [hlpe];unfold wrap64;omega
   rw [if_pos h4,hl]
   simp only
   have hnc:nszL p.l = nsz c + nsz b:=by rw [hl,nszL,nszL,nszL];omega
   have hpc:=nsz_pos c
   have hpb:=nsz_pos b
   rw [hnp,hnc] at hlp hlc hsp
   have hcm:c ∈ p.l:=by rw [hl];simp
   have hbm:b ∈ p.l:=by rw [hl];simp
   have rc:RK { st with sp:=x,lp:=wrap64 (st.lp + 1) } d 1:=⟨h.e,h.lm,h.od,hwl,h.lc,h.sl,h.cl,h.dis,h.lc0,by have:=h.sp0;show 0 ≤ x;omega⟩
   obtain ⟨c1,s1,f1⟩:=ih c 1 (by omega) (hg.sub hcm) (Or.inr hc) _ d rc he hl0 (by decide) (by omega) (by omega) (by show x + 2 * (nsz c:Int) ≤ _;omega)
   have hx0:p.l[0]? = some c:=by rw [hl];rfl
   have hx1':p.l[1]? = some b:=by rw [hl];rfl
   have hlen:p.l.length = 2:=by rw [hl];rfl
   have hpush0:∀ r K,thr nm fs (K + 1) ((p,0) :: r) { st with sp:=x,lp:=wrap64 (st.lp + 1) } = thr nm fs K ((c,0) :: (p,1) :: r) (WK.bgn { st with sp:=x,lp:=wrap64 (st.lp + 1) } c):=fun r K => by
    rw [thr,if_neg (by simp [h.e]),if_neg (by omega),hx0]
    simp only
    rw [if_pos (hsm c hcm)]
   rw [hb0,hnp,hnc]
   by_cases e1:(dW fs F c d).e = 0
   ·obtain ⟨st1,r1,b1,p1,q1,w1,t1⟩:=s1 e1
    have p1':st1.sp ≤ x + 2 * (nsz c:Int):=p1
    obtain ⟨d1,hd1⟩:∃ d1,d1 = dW fs F c d:=⟨_,rfl⟩
    rw [← hd1] at r1 q1 w1 c1 e1 ⊢
    have r1b:RK st1 { d1 with lp:=d1.lp + 1 } 0:=⟨r1.e,r1.lm,r1.od,by show st1.lp = d1.lp + 1 + 0;rw [r1.lp];omega,r1.lc,r1.sl,r1.cl,r1.dis,r1.lc0,r1.sp0⟩
    obtain ⟨c2,s2,f2⟩:=ih b 0 (by omega) (hg.sub hbm) (Or.inl rfl) st1 { d1 with lp:=d1.lp + 1 } r1b e1 (by show 0 ≤ d1.lp + 1;omega) (by decide) (by show d1.lp + 1 + 0 + (nsz b:Int) ≤ _;omega) (by show d1.lc + (nsz b:Int) ≤ _;omega) (by omega)
    have c2':(dW fs F b { d1 with lp:=d1.lp + 1 }).lc ≤ d1.lc + nsz b:=c2
    have hpush1:∀ r K,thr nm fs (K + 1) ((p,1) :: r) st1 = thr nm fs K ((b,0) :: (p,2) :: r) (st1.bgn b):=fun r K => by
     rw [thr,if_neg (by simp [r1.e]),if_neg (by omega),hx1']
     simp only
     rw [if_pos (hsm b hbm)]
    refine ⟨by show (dW fs F b { d1 with lp:=d1.lp + 1 }).lc ≤ _;omega,fun e2 => ?_,fun e2 => ?_⟩
    ·obtain ⟨st2,r2,b2,p2,q2,w2,t2⟩:=s2 e2
     have q2':(dW fs F b { d1 with lp:=d1.lp + 1 }).lp = d1.lp + 1:=q2
     refine ⟨{ st2 with lp:=wrap64 (st2.lp - 1) },⟨r2.e,r2.lm,r2.od,?_,r2.lc,r2.sl,r2.cl,r2.dis,r2.lc0,r2.sp0⟩,b2.trans b1,by show st2.sp ≤ _;omega,?_,w1.trans w2,fun r k => ?_⟩
     ·show wrap64 (st2.lp - 1) = (dW fs F b { d1 with lp:=d1.lp + 1 }).lp - 1 + 0
      rw [r2.lp,q2'];unfold wrap64;omega
     ·show (dW fs F b { d1 with lp:=d1.lp + 1 }).lp - 1 = d.lp
      rw [q2'];omega
     ·rw [show k + 2 * (1 + (nsz c + nsz b)) = (k + 1 + 2 * nsz b + 2 * nsz c) + 1 by omega,hpush0,t1,hpush1,show k + 1 + 2 * nsz b = (k + 1) + 2 * nsz b by omega,t2]
      rw [thr,if_neg (by simp [r2.e]),if_pos hlen.symm]
      unfold WK.fin
      rw [if_neg (by rw [h4];decide),if_neg (by rw [h4];decide),if_pos h4]
    ·obtain ⟨st2,r2,t2⟩:=f2 e2
     refine ⟨st2,r2,fun r k => ?_⟩
     rw [show k + 2 * (1 + (nsz c + nsz b)) = (k + 1 + 2 * nsz b + 2 * nsz c) + 1 by omega,hpush0,t1,hpush1,show k + 1 + 2 * nsz b = (k + 1) + 2 * nsz b by omega,t2]
   ·obtain ⟨st1,r1,t1⟩:=f1 e1
    have hbb:dW fs F b { dW fs F c d with lp:=(dW fs F c d).lp + 1 } = { dW fs F c d with lp:=(dW fs F c d).lp + 1 }:=dW_bad fs F b _ e1
    rw [hbb]
    refine ⟨by show (dW fs F c d).lc ≤ _;omega,fun e2 => absurd e2 e1,fun _ => ⟨st1,r1,fun r k => ?_⟩⟩
    rw [show k + 2 * (1 + (nsz c + nsz b)) = (k + 1 + 2 * nsz b + 2 * nsz c) + 1 by omega,hpush0,t1]
  rw [if_neg h4]
  by_cases h5:p.k = 5 ∨ p.k = 6
  ·have hl:=hw5 h5
   have hd0:dl = 0:=hd.elim id (fun hn => absurd h5 (fun e => e.elim hn.props.2.1 hn.props.2.2))
   subst hd0
   have hlpe:=h.lp
   have hb0:st.bgn p = WK.leave { st with sp:=x }:=by
    unfold WK.bgn
    rw [hst,if_neg (by rcases h5 with e | e <;> rw [e] <;> decide),if_neg (by rcases h5 with e | e <;> rw [e] <;> decide),if_neg h4,if_pos h5]
   rw [if_pos h5,hb0]
   unfold WK.leave
   by_cases hz:d.lp = 0
   ·have hz2:({ st with sp:=x }:WK).lp = 0:=by show st.lp = 0;rw [hlpe,hz];rfl
    rw [if_pos hz,if_pos hz2]
    have hf:WK.fail { st with sp:=x } 11 = { st with sp:=x,e:=11 }:=by unfold WK.fail;rw [if_pos h.e]
    rw [hf]
    refine ⟨by show d.lc ≤ _;omega,fun e => absurd e (show ¬ (11:Int) = 0 by decide),fun _ => ⟨{ st with sp:=x,e:=11 },rfl,fun r k => ?_⟩⟩
    rw [show k + 2 * nsz p = (k + 2 * nsz p - 1) + 1 by omega]
    exact thr_bad _ _ _ _ _ (show ¬ (11:Int) = 0 by decide)
   ·have hz2:¬ ({ st with sp:=x }:WK).lp = 0:=by show ¬ st.lp = 0;rw [hlpe];omega
    rw [if_neg hz,if_neg hz2]
    refine ⟨by omega,fun _ => ⟨{ st with sp:=x },h1,rfl,by show x ≤ _;omega,rfl,List.prefix_refl _,fun r k => ?_⟩,fun e => absurd he e⟩
    rw [hnp,hl,nszL,show k + 2 * (1 + 0) = (k + 1) + 1 by omega]
    rw [thr,if_neg (by simp [h.e]),if_pos (by rw [hl];rfl)]
    unfold WK.fin
    rw [if_neg (by rcases h5 with e | e <;> rw [e] <;> decide),if_neg (by rcases h5 with e | e <;> rw [e] <;> decide),if_neg h4,if_neg (by rcases h5 with e | e <;> rw [e] <;> decide)]
  rw [if_neg h5]
  -- what is done ahead of its parts
  have hbeg:((dBeg p.k p.s d).e = 0 → RK (st.bgn p) (dBeg p.k p.s d) dl ∧ (st.bgn p).bk = (if p.k = 10 then st.bk ++ [(d.see.length:Int)] else st.bk) ∧ (st.bgn p).sp = x ∧ (dBeg p.k p.s d).see = d.see ∧ (dBeg p.k p.s d).lp = d.lp) ∧ (dBeg p.k p.s d).lc = d.lc ∧ ((dBeg p.k p.s d).e ≠ 0 → (st.bgn p).e = (dBeg p.k p.s d).e):=by
   unfold dBeg WK.bgn
   rw [hst]
   by_cases h2:p.k = 2 ∨ p.k = 19
   ·rw [if_pos h2,if_pos h2,if_neg (by rcases h2 with e | e <;> rw [e] <;> decide)]
    unfold DK.use WK.use
    have hl2:lkp ({ st with sp:=x }:WK).lm p.s = fnd d.see p.s:=by show lkp st.lm p.s = _;rw [h.lm];rfl
    rw [hl2]
    cases hf:fnd d.see p.s with
    | none =>
     refine ⟨fun e => absurd e (show ¬ (11:Int) = 0 by decide),rfl,fun _ => ?_⟩
     show (WK.fail { st with sp:=x } 11).e = 11
     unfold WK.fail;rw [if_pos h.e]
    | some v => exact ⟨fun _ => ⟨⟨h1.e,h1.lm,h1.od,h1.lp,h1.lc,by show st.sl ++ [v] = _;rw [h.sl],h1.cl,h1.dis,h1.lc0,h1.sp0⟩,rfl,rfl,rfl,rfl⟩,rfl,fun e => absurd he e⟩
   ·rw [if_neg h2,if_neg h2]
    refine ⟨fun _ => ?_,rfl,fun e => absurd he e⟩
    by_cases h10:p.k = 10
    ·rw [if_pos h10,if_pos h10]
     exact ⟨⟨h1.e,h1.lm,h1.od,h1.lp,h1.lc,h1.sl,h1.cl,h1.dis,h1.lc0,h1.sp0⟩,by show st.bk ++ [(st.od.length:Int)] = _;rw [h.od,List.length_map],rfl,rfl,rfl⟩
    ·rw [if_neg h10,if_neg h4,if_neg h5,if_neg h10]
     exact ⟨h1,rfl,rfl,rfl,rfl⟩
  obtain ⟨hb1,hblc,hb2⟩:=hbeg
  by_cases eb:(dBeg p.k p.s d).e = 0
  ·obtain ⟨rb,bkb,spb,seb,lpb⟩:=hb1 eb
   rw [hnp] at hlp hlc hsp
   obtain ⟨c2,s2,f2⟩:=list_sim hdl hsm hone p.l 0 (by simp) (Nat.zero_le _) (st.bgn p) (dBeg p.k p.s d) rb eb (by omega) (by omega) (by omega) (by omega)
   obtain ⟨d2,hd2⟩:∃ d2,d2 = p.l.foldl (fun d x => dW fs F x d) (dBeg p.k p.s d):=⟨_,rfl⟩
   rw [← hd2] at c2 s2 f2 ⊢
   have hlcE:(dEnd fs p.k p.s p.l.length d.see.length d2).lc ≤ d2.lc + 1:=by
    unfold dEnd DK.letD DK.callD
    repeat' split
    all_goals (first | (show d2.lc ≤ d2.lc + 1;omega) | (show d2.lc + 1 ≤ d2.lc + 1;omega))
   refine ⟨by omega,?_⟩
   by_cases e2:d2.e = 0
   ·obtain ⟨st2,r2,b2,p2,q2,w2,t2⟩:=s2 e2
    rw [seb] at w2
    obtain ⟨s3,f3⟩:=fin_sim hnm (p:=p) (d0:=d) r2 (by rw [b2,bkb];split <;> simp) w2 h4 (by omega) e2
    constructor
    ·intro e3
     obtain ⟨st3,t3,r3,b3,p3,q3,w3⟩:=s3 e3
     refine ⟨st3,r3,?_,by omega,by omega,w3,fun r k => ?_⟩
     ·rw [b3,b2,bkb];split <;> simp
     ·rw [hnp,show k + 2 * (1 + nszL p.l) = (k + 1) + 1 + 2 * nszL p.l by omega,t2,thr,if_neg (by simp [r2.e]),if_pos rfl,t3]
    ·intro e3
     obtain ⟨st3,t3,r3⟩:=f3 e3
     refine ⟨st3,r3,fun r k => ?_⟩
     rw [hnp,show k + 2 * (1 + nszL p.l) = (k + 1) + 1 + 2 * nszL p.l by omega,t2,thr,if_neg (by simp [r2.e]),if_pos rfl,t3]
     exact thr_bad _ _ _ _ _ (by rw [r3];exact e3)
   ·have hE:=dEnd_e (fs:=fs) (k:=p.k) (s:=p.s) (n:=p.l.length) (mark:=d.see.length) e2
    obtain ⟨st2,r2,t2⟩:=f2 e2
    refine ⟨fun e3 => absurd (hE.symm.trans e3) e2,fun _ => ⟨st2,r2.trans hE.symm,fun r k => ?_⟩⟩
    rw [hnp,show k + 2 * (1 + nszL p.l) = (k + 1) + 1 + 2 * nszL p.l by omega,t2]
  ·have hfold:=fold_bad fs F p.l _ eb
   rw [hfold]
   have hE:=dEnd_e (fs:=fs) (k:=p.k) (s:=p.s) (n:=p.l.length) (mark:=d.see.length) eb
   have hlcE:(dEnd fs p.k p.s p.l.length d.see.length (dBeg p.k p.s d)).lc ≤ (dBeg p.k p.s d).lc:=by
    unfold dEnd DK.letD DK.callD
    rw [if_pos eb,if_pos eb]
    repeat' split
    all_goals exact Int.le_refl _
   refine ⟨by omega,fun e3 => absurd (hE.symm.trans e3) eb,fun _ => ⟨st.bgn p,(hb2 eb).trans hE.symm,fun r k => ?_⟩⟩
   rw [show k + 2 * nsz p = (k + 2 * nsz p - 1) + 1 by omega]
   exact thr_bad _ _ _ _ _ (by rw [hb2 eb];exact eb)
end Go.Proofs.YtgkdmgndebifiaaGreatDoor
namespace Go.Proofs.YtgkdmgndebifiaaGreatDoor
open Go.RowKit Go.Maps
def prmD:List ByteArray → Nat → List (ByteArray × Int) → Option (List (ByteArray × Int))
 | [],_,see => some see
 | s :: r,k,see => if (fnd see s).isSome then none else prmD r (k + 1) (see ++ [(s,(k:Int))])
theorem prm_bad (ps:List ByteArray) (st:WK) (h:st.e ≠ 0):prm ps st = st:=by
 cases ps with
 | nil => rfl
 | cons s r => rw [prm,if_pos h]
theorem prm_sim:∀ (ps:List ByteArray) (k:Nat) (see:List (ByteArray × Int)) (st:WK),RK st ⟨see,0,(k:Int),[],[],0⟩ 0 → k + ps.length ≤ 100000 →
  (∀ see',prmD ps k see = some see' → RK (prm ps st) ⟨see',0,((k + ps.length:Nat):Int),[],[],0⟩ 0 ∧ (prm ps st).sp = st.sp) ∧ (prmD ps k see = none → (prm ps st).e = 11)
 | [],k,see,st,h,hk => ⟨fun see' e => by rw [prmD] at e;injection e with e;subst e;exact ⟨h,rfl⟩,fun e => by cases e⟩
 | s :: r,k,see,st,h,hk => by
  simp only [List.length_cons] at hk
  have he:=h.e
  rw [prmD,prm,if_neg (show ¬ st.e ≠ 0 by simp [he])]
  unfold WK.declare
  have hl:lkp st.lm s = fnd see s:=by rw [h.lm];rfl
  rw [hl]
  cases hf:(fnd see s).isSome
  ·rw [if_neg (by decide),if_neg (by decide)]
   have hlc:st.lc = (k:Int):=h.lc
   have h2:RK (st.put s st.lc).up ⟨see ++ [(s,(k:Int))],0,((k + 1:Nat):Int),[],[],0⟩ 0:=by
    refine ⟨he,?_,?_,h.lp,?_,h.sl,h.cl,?_,by show 0 ≤ ((k + 1:Nat):Int);omega,h.sp0⟩
    ·show (s,st.lc) :: st.lm = _
     rw [h.lm,hlc];simp
    ·show st.od ++ [s] = _
     rw [h.od];simp
    ·show wrap64 (st.lc + 1) = ((k + 1:Nat):Int)
     rw [hlc];unfold wrap64;omega
    ·have hn:=h.dis
     show ((see ++ [(s,(k:Int))]).map (fun p => p.1.data.toList)).Nodup
     rw [List.map_append]
     refine List.nodup_append.2 ⟨hn,by simp,fun u hu v hv e => ?_⟩
     simp at hv
     subst hv
     obtain ⟨y,hy,rfl⟩:=List.mem_map.1 hu
     have hfn:fnd see s = none:=by simpa using hf
     unfold fnd lkp at hfn
     have hfn2:see.reverse.find? (fun q => q.1.data.toList == s.data.toList) = none:=by simpa using hfn
     have h9:=List.find?_eq_none.1 hfn2 y (by simpa using hy)
     exact h9 (by simpa using e)
   obtain ⟨a,b⟩:=prm_sim r (k + 1) _ _ h2 (by omega)
   refine ⟨fun see' e => ?_,b⟩
   obtain ⟨a1,a2⟩:=a see' e
   rw [show k + 1 + r.length = k + (s :: r).length by simp;omega] at a1
   exact ⟨a1,a2⟩
  ·rw [if_pos rfl,if_pos rfl]
   have hE:((st.fail 11).up).e = 11:=by unfold WK.fail WK.up;rw [if_pos he]
   rw [prm_bad r _ (by rw [hE];decide)]
   exact ⟨fun see' e => (by cases e),fun _ => hE⟩
def dFn (fs:List PFn) (p:PFn):PSc × Int:=match prmD p.ps 0 [] with
 | none => (⟨0,[],[]⟩,11)
 | some see => if (dW fs (nsz p.bd) p.bd ⟨see,0,(p.ps.length:Int),[],[],0⟩).e ≠ 0 then (⟨0,[],[]⟩,(dW fs (nsz p.bd) p.bd ⟨see,0,(p.ps.length:Int),[],[],0⟩).e)
  else if 64 < (dW fs (nsz p.bd) p.bd ⟨see,0,(p.ps.length:Int),[],[],0⟩).lc then (⟨0,[],[]⟩,65)
  else (⟨(dW fs (nsz p.bd) p.bd ⟨see,0,(p.ps.length:Int),[],[],0⟩).lc,(dW fs (nsz p.bd) p.bd ⟨see,0,(p.ps.length:Int),[],[],0⟩).sl,(dW fs (nsz p.bd) p.bd ⟨see,0,(p.ps.length:Int),[],[],0⟩).cl⟩,0)
theorem fail_bad (st:WK) (c:Int) (h:st.e ≠ 0):st.fail c = st:=by unfold WK.fail;rw [if_neg h]
theorem step_bad (st:WK) (n:Nat) (h:st.e ≠ 0):(st.step n).e = st.e:=by
 unfold WK.step WK.stepTo
 split
 ·have:=fail_bad { st with sp:=wrap64 (st.sp + (1 + (n:Int) / 4000)) } 65 h
  rw [this]
 ·rfl
theorem bgn_bad (st:WK) (p:PN) (h:st.e ≠ 0):(st.bgn p).e = st.e:=by
 have hs:=step_bad st p.s.size h
 have hs2:(st.step p.s.size).e ≠ 0:=by rw [hs];exact h
 unfold WK.bgn
 split
 ·unfold WK.use
  split
  ·rw [fail_bad _ _ hs2];exact hs
  ·exact hs
 split
 ·exact hs
 split
 ·exact hs
 split
 ·unfold WK.leave
  split
  ·rw [fail_bad _ _ hs2];exact hs
  ·exact hs
 ·exact hs
theorem fn_sim {nm:List (ByteArray × Int)} {fs:List PFn} (hnm:nums fs 0 [] = some nm) {p:PFn} (hp:fX p) (hps:p.ps.length ≤ 1000) (hz:nsz p.bd ≤ 5000) {sp:Int} (h0:0 ≤ sp) (h1:sp + 10000 ≤ 4194304) :
  ∃ st',fnW nm fs 100000 sp p = some st' ∧ st'.e = (dFn fs p).2 ∧ ((dFn fs p).2 = 0 → (⟨st'.lc,st'.sl,st'.cl⟩:PSc) = (dFn fs p).1 ∧ 0 ≤ st'.sp ∧ st'.sp ≤ sp + 2 * nsz p.bd):=by
 obtain ⟨hn,hpz,hg⟩:=hp
 have hsm:(small p.bd.s && p.ps.all small) = true:=by
  rw [Bool.and_eq_true]
  exact ⟨small_of hg.props.1,List.all_eq_true.2 (fun s hs => small_of (hpz s hs))⟩
 have hrk:RK (wkZ sp) ⟨[],0,((0:Nat):Int),[],[],0⟩ 0:=⟨rfl,rfl,rfl,rfl,rfl,rfl,rfl,by simp,by show (0:Int) ≤ 0;omega,h0⟩
 obtain ⟨a,b⟩:=prm_sim p.ps 0 [] (wkZ sp) hrk (by omega)
 have hpos:=nsz_pos p.bd
 unfold fnW dFn
 rw [if_pos hsm]
 cases hpd:prmD p.ps 0 [] with
 | none =>
  have hE:=b hpd
  have hB:=bgn_bad (prm p.ps (wkZ sp)) p.bd (by rw [hE];decide)
  rw [show (100000:Nat) = 99999 + 1 by rfl,thr_bad nm fs 99999 _ _ (by rw [hB,hE];decide)]
  simp only
  refine ⟨_,rfl,?_,fun e => absurd e (by decide)⟩
  split
  ·rw [fail_bad _ _ (by rw [hB,hE];decide),hB,hE]
  ·rw [hB,hE]
 | some see =>
  obtain ⟨rk,hsp⟩:=a see hpd
  have hsp2:(prm p.ps (wkZ sp)).sp = sp:=hsp
  rw [Nat.zero_add] at rk
  obtain ⟨c,s,f⟩:=sim_all hnm (nsz p.bd) p.bd 0 (Nat.le_refl _) hg (Or.inl rfl) _ _ rk rfl (by show (0:Int) ≤ 0;omega) (by decide) (by show (0:Int) + 0 + (nsz p.bd:Int) ≤ _;omega) (by show (p.ps.length:Int) + (nsz p.bd:Int) ≤ _;omega) (by rw [hsp2];omega)
  simp only
  generalize dW fs (nsz p.bd) p.bd ⟨see,0,(p.ps.length:Int),[],[],0⟩ = d' at *
  obtain ⟨K,hK⟩:∃ K,100000 = K + 2 * nsz p.bd:=⟨100000 - 2 * nsz p.bd,by omega⟩
  by_cases e1:d'.e = 0
  ·obtain ⟨st',r,b1,p1,q1,w1,t⟩:=s e1
   rw [hsp2] at p1
   rw [hK,t [] K,thr]
   simp only
   rw [if_neg (show ¬ d'.e ≠ 0 by simp [e1])]
   have hlc:=r.lc
   by_cases h64:64 < d'.lc
   ·rw [if_pos h64,if_pos (by rw [hlc];exact h64)]
    refine ⟨_,rfl,?_,fun e => absurd e (by decide)⟩
    unfold WK.fail;rw [if_pos r.e]
   ·rw [if_neg h64,if_neg (by rw [hlc];exact h64)]
    exact ⟨st',rfl,r.e,fun _ => ⟨by rw [r.lc,r.sl,r.cl],r.sp0,p1⟩⟩
  ·obtain ⟨st',r,t⟩:=f e1
   rw [hK,t [] K]
   simp only
   rw [if_pos e1]
   refine ⟨_,rfl,?_,fun e => absurd e e1⟩
   split
   ·rw [fail_bad _ _ (by rw [r];exact e1)];exact r
   ·exact r
def dChk (fs:List PFn):List PFn → List PSc → List PSc × Int
 | [],acc => (acc,0)
 | p :: r,acc => if (dFn fs p).2 ≠ 0 then ([],(dFn fs p).2) else dChk fs r (acc ++ [(dFn fs p).1])
theorem chk_sim {nm:List (ByteArray × Int)} {fs:List PFn} (hnm:nums fs 0 [] = some nm):∀ (l:List PFn) (acc:List PSc) (sp:Int),(∀ p ∈ l,fX p ∧ p.ps.length ≤ 1000) → nszF l ≤ 5000 → 0 ≤ sp → sp + 10000 + 2 * nszF l ≤ 4194304 → chk nm fs 100000 l sp acc = some (dChk fs l acc)
 | [],acc,sp,h,hz,h0,h1 => rfl
 | p :: l,acc,sp,h,hz,h0,h1 => by
  rw [nszF] at hz h1
  obtain ⟨st',t,e,g⟩:=fn_sim hnm (h p (by simp)).1 (h p (by simp)).2 (by omega) h0 (by omega)
  rw [chk,t,dChk]
  simp only
  by_cases e0:(dFn fs p).2 = 0
  ·obtain ⟨g1,g2,g3⟩:=g e0
   rw [if_neg (by rw [e];simp [e0]),if_neg (by simp [e0]),g1]
   exact chk_sim hnm l _ _ (fun q hq => h q (by simp [hq])) (by omega) g2 (by omega)
  ·rw [if_pos (by rw [e];exact e0),if_pos e0,e]
def mainD (fs:List PFn):Int:=match idxF fs ⟨#[109,97,105,110]⟩ 0 with
 | none => 11
 | some i => if 0 < ((fs[i]?).map (·.ps.length)).getD 0 then 12 else 0
def docP (fs:List PFn):List PSc × Int:=match nums fs 0 [] with
 | none => ([],11)
 | some _ => if (dChk fs fs []).2 ≠ 0 then ([],(dChk fs fs []).2) else if mainD fs ≠ 0 then ([],mainD fs) else ((dChk fs fs []).1,0)
theorem check_doc (fs:List PFn) (h:∀ p ∈ fs,fX p ∧ p.ps.length ≤ 1000) (hz:nszF fs ≤ 5000):checkP fs 100000 = some (docP fs) ∧ checkQ fs 100000 = some (docP fs):=by
 have hsm:fs.all (fun p => small p.nm) = true:=List.all_eq_true.2 (fun p hp => small_of (h p hp).1.1)
 have hq:checkQ fs 100000 = some (docP fs):=by
  unfold checkQ docP
  cases hn:nums fs 0 [] with
  | none => rfl
  | some nm =>
   simp only
   rw [chk_sim hn fs [] 0 h hz (by decide) (by omega)]
   have hm:mainP nm fs = mainD fs:=by
    unfold mainP mainD
    have hi:=nums_idx fs 0 [] nm hn ⟨#[109,97,105,110]⟩
    have hl0:lkp [] (⟨#[109,97,105,110]⟩:ByteArray) = none:=rfl
    rw [hl0] at hi
    simp only at hi
    rw [hi]
    cases idxF fs ⟨#[109,97,105,110]⟩ 0 with
    | none => rfl
    | some i => simp
   simp only
   rw [hm]
   split
   ·rfl
   split
   ·rfl
   ·rfl
 refine ⟨?_,hq⟩
 unfold checkP
 rw [if_pos hsm]
 exact hq
/- Words are no longer than their text. -/
theorem txF_len:∀ (f:Nat) (l:List UInt8) (t:List UInt8) (m:Nat),txF f l = some (t,m) → t.length ≤ l.length
 | 0,l,t,m,h => by cases h
 | f + 1,[],t,m,h => by cases h
 | f + 1,c :: r,t,m,h => by
  rw [txF] at h
  split at h
  ·cases h
  split at h
  ·injection h with h;injection h with h1 h2;subst h1;simp
  split at h
  ·cases h
  ·rename_i h0
   obtain ⟨q,hq,he⟩:=Option.map_eq_some_iff.1 h
   injection he with he1 he2
   subst he1
   have ih:=txF_len f _ q.1 q.2 hq
   rw [List.length_drop] at ih
   have:=sg_le (c :: r)
   simp only [List.length_cons] at *
   omega
theorem tokL_len {F:Nat} {l:List UInt8} {k:Int} {t:List UInt8} {n:Int} {m:Nat} (h:tokL F l = some (k,t,n,m)):t.length ≤ l.length:=by
 cases l with
 | nil => cases h
 | cons c r =>
  rw [tokL] at h
  split at h
  ·unfold numL at h
   (repeat' split at h) <;> first | cases h;done | (cases h;simp)
  split at h
  ·unfold nameL at h
   split at h
   ·cases h
   ·injection h with h
    injection h with h1 h2
    injection h2 with h2 h3
    subst h2
    rw [List.length_take]
    exact Nat.min_le_right _ _
  split at h
  ·unfold textL at h
   obtain ⟨q,hq,hp⟩:=Option.map_eq_some_iff.1 h
   injection hp with h1 h2
   injection h2 with h2 h3
   subst h2
   have:=txF_len F r q.1 q.2 hq
   simp only [List.length_cons]
   omega
  ·unfold opLL at h
   split at h
   ·cases h
   ·injection h with h
    injection h with h1 h2
    injection h2 with h2 h3
    subst h2
    rw [List.length_take]
    exact Nat.min_le_right _ _
theorem lexL_size (F:Nat):∀ (f:Nat) (l:List UInt8) (o:Nat),∀ t ∈ (lexL F f l o).1,t.t.size ≤ l.length:=by
 intro f
 induction f with
 | zero => intro l o t h;simp [lexL] at h
 | succ f ih =>
  intro l o t h
  rw [lexL] at h
  have hdl:(l.drop (skp false l)).length ≤ l.length:=by rw [List.length_drop];omega
  split at h
  ·simp at h
  ·rename_i c r hcr
   rw [hcr] at hdl
   split at h
   ·simp at h
   ·rename_i k tx n m ht
    rcases List.mem_cons.1 h with rfl | h
    ·have:=tokL_len ht
     show tx.toArray.size ≤ _
     simp only [List.size_toArray]
     omega
    ·have:=ih _ _ t h
     rw [List.length_drop] at this
     omega
theorem begP_tz (s:ByteArray):Tz (begP s):=by
 unfold begP
 split
 ·exact Tz.nil rfl
 ·rename_i hs
  split
  ·exact Tz.nil rfl
  ·intro t ht
   have h1:t ∈ (lexF (s.size + 1) s 0).1:=ht
   rw [lexF_L _ _ _ (Nat.zero_le _)] at h1
   have:=lexL_size _ _ _ _ t h1
   simp only [List.drop_zero] at this
   have h2:=L_len s
   omega
theorem begP_nv (s:ByteArray):Nv (begP s):=by
 unfold begP
 split
 ·exact ⟨fun e => absurd e (show ¬ (2:Int) = 0 by decide),fun _ => rfl⟩
 ·split
  ·exact ⟨fun e => absurd e (show ¬ (10:Int) = 0 by decide),fun _ => rfl⟩
  ·exact ⟨fun _ => ⟨(show (0:Int) ≤ 0 by decide),(show (0:Int) ≤ 24 by decide)⟩,fun e => absurd rfl e⟩
theorem rd_doc (s:ByteArray) (he:(rdP s 5000).2.e = 0) (ht:tooP (rdP s 5000).1 = false):checkP (rdP s 5000).1 100000 = some (docP (rdP s 5000).1) ∧ checkQ (rdP s 5000).1 100000 = some (docP (rdP s 5000).1):=by
 have hl:=begP_len s
 obtain ⟨a,b,c⟩:=funs_j (len:=s.size) (sts_j s.size 5000 5000 (Nat.le_refl _)).2.1 5000 5000 [] (begP s) (fun p h => by cases h) (begP_nv s) (begP_tz s) (by omega)
 have hz:nszF (rdP s 5000).1 ≤ 5000:=by
  have h1:=c he
  have h2:nszF (rdP s 5000).1 + (rdP s 5000).2.ts.length ≤ nszF [] + (begP s).ts.length:=h1
  rw [nszF] at h2
  omega
 refine check_doc _ (fun p hp => ⟨a p hp,?_⟩) hz
 unfold tooP at ht
 rw [Bool.or_eq_false_iff] at ht
 have h3:=List.any_eq_false.1 ht.2 p hp
 simp at h3
 omega
end Go.Proofs.YtgkdmgndebifiaaGreatDoor
namespace Go.Proofs.YtgkdmgndebifiaaGreatDoor
open Go.RowKit Go.Maps
structure LE (d d':DK) (n:Nat):Prop where
 sl:d'.sl.length ≤ d.sl.length + n
 cl:d'.cl.length ≤ d.cl.length + n
 see:d'.see.length ≤ d.see.length + n
 lc:d'.lc ≤ d.lc + n
 lc0:d.lc ≤ d'.lc
 lp:d'.lp = d.lp
theorem LE.refl (d:DK) (n:Nat):LE d d n:=⟨by omega,by omega,by omega,by omega,by omega,rfl⟩
theorem LE.trans {a b c:DK} {n m:Nat} (h:LE a b n) (k:LE b c m):LE a c (n + m):=⟨by have:=h.sl;have:=k.sl;omega,by have:=h.cl;have:=k.cl;omega,by have:=h.see;have:=k.see;omega,by have:=h.lc;have:=k.lc;omega,by have:=h.lc0;have:=k.lc0;omega,k.lp.trans h.lp⟩
theorem LE.mono {a b:DK} {n m:Nat} (h:LE a b n) (hm:n ≤ m):LE a b m:=⟨by have:=h.sl;omega,by have:=h.cl;omega,by have:=h.see;omega,by have:=h.lc;omega,h.lc0,h.lp⟩
theorem use_le (d:DK) (s:ByteArray):(d.use s).sl.length ≤ d.sl.length + 1 ∧ (d.use s).cl = d.cl ∧ (d.use s).see = d.see ∧ (d.use s).lc = d.lc ∧ (d.use s).lp = d.lp:=by
 unfold DK.use
 split
 ·exact ⟨by show d.sl.length ≤ _;omega,rfl,rfl,rfl,rfl⟩
 ·exact ⟨by simp,rfl,rfl,rfl,rfl⟩
theorem dBeg_le (k:Int) (s:ByteArray) (d:DK):(dBeg k s d).sl.length ≤ d.sl.length + 1 ∧ (dBeg k s d).cl = d.cl ∧ (dBeg k s d).see = d.see ∧ (dBeg k s d).lc = d.lc ∧ (dBeg k s d).lp = d.lp ∧ ((k = 1 ∨ k = 10 ∨ k = 20) → dBeg k s d = d):=by
 unfold dBeg
 split
 ·rename_i h
  obtain ⟨a,b,c,e,f⟩:=use_le d s
  exact ⟨a,b,c,e,f,fun h2 => absurd h (by rcases h2 with rfl | rfl | rfl <;> decide)⟩
 ·exact ⟨by omega,rfl,rfl,rfl,rfl,fun _ => rfl⟩
theorem dEnd_le (fs:List PFn) (k:Int) (s:ByteArray) (n mark:Nat) (d:DK):LE d (dEnd fs k s n mark d) 1 ∧ ((k = 1 ∨ k = 10 ∨ k = 20) ∨ dEnd fs k s n mark d = d):=by
 unfold dEnd
 split
 ·rename_i h1
  refine ⟨?_,Or.inl (Or.inl h1)⟩
  unfold DK.letD
  split
  ·exact LE.refl _ _
  split
  ·exact ⟨by show d.sl.length ≤ _;omega,by show d.cl.length ≤ _;omega,by show d.see.length ≤ _;omega,by show d.lc ≤ _;omega,by show d.lc ≤ d.lc;omega,rfl⟩
  ·exact ⟨by simp,by show d.cl.length ≤ _;omega,by simp,by show d.lc + 1 ≤ d.lc + ((1:Nat):Int);omega,by show d.lc ≤ d.lc + 1;omega,rfl⟩
 split
 ·rename_i h1
  exact ⟨⟨by show d.sl.length ≤ _;omega,by show d.cl.length ≤ _;omega,by show (d.see.take mark).length ≤ _;rw [List.length_take];omega,by show d.lc ≤ _;omega,by show d.lc ≤ d.lc;omega,rfl⟩,Or.inl (Or.inr (Or.inl h1))⟩
 split
 ·rename_i h1
  refine ⟨?_,Or.inl (Or.inr (Or.inr h1))⟩
  unfold DK.callD
  have same:∀ c:Int,LE d { d with e:=c } 1:=fun c => ⟨by show d.sl.length ≤ _;omega,by show d.cl.length ≤ _;omega,by show d.see.length ≤ _;omega,by show d.lc ≤ _;omega,by show d.lc ≤ d.lc;omega,rfl⟩
  have more:∀ x:Int,LE d { d with cl:=d.cl ++ [x] } 1:=fun x => ⟨by show d.sl.length ≤ _;omega,by simp,by show d.see.length ≤ _;omega,by show d.lc ≤ _;omega,by show d.lc ≤ d.lc;omega,rfl⟩
  split
  ·exact LE.refl _ _
  split
  ·split
   ·exact same 12
   ·exact more _
  ·split
   ·exact same 11
   ·split
    ·exact same 12
    ·exact more _
 ·exact ⟨LE.refl _ _,Or.inr rfl⟩
theorem fold_le (fs:List PFn) (F:Nat) (h:∀ (p:PN) (d:DK),LE d (dW fs F p d) (nsz p)):∀ (l:List PN) (d:DK),LE d (l.foldl (fun d x => dW fs F x d) d) (nszL l)
 | [],d => LE.refl _ _
 | x :: l,d => by
  rw [List.foldl_cons,nszL]
  exact (h x d).trans (fold_le fs F h l _)
theorem dW_le (fs:List PFn):∀ (F:Nat) (p:PN) (d:DK),LE d (dW fs F p d) (nsz p)
 | 0,p,d => LE.refl _ _
 | F + 1,p,d => by
  have hnp:nsz p = 1 + nszL p.l:=by cases p;rw [nsz]
  rw [dW,hnp]
  split
  ·exact LE.refl _ _
  split
  ·split
   ·rename_i c b hl
    have h1:=dW_le fs F c d
    have h2:=dW_le fs F b { dW fs F c d with lp:=(dW fs F c d).lp + 1 }
    have e2:(dW fs F b { dW fs F c d with lp:=(dW fs F c d).lp + 1 }).lp = (dW fs F c d).lp + 1:=h2.lp
    have s2:(dW fs F b { dW fs F c d with lp:=(dW fs F c d).lp + 1 }).sl.length ≤ (dW fs F c d).sl.length + nsz b:=h2.sl
    have c2:(dW fs F b { dW fs F c d with lp:=(dW fs F c d).lp + 1 }).cl.length ≤ (dW fs F c d).cl.length + nsz b:=h2.cl
    have q2:(dW fs F b { dW fs F c d with lp:=(dW fs F c d).lp + 1 }).see.length ≤ (dW fs F c d).see.length + nsz b:=h2.see
    have l2:(dW fs F b { dW fs F c d with lp:=(dW fs F c d).lp + 1 }).lc ≤ (dW fs F c d).lc + nsz b:=h2.lc
    have m2:(dW fs F c d).lc ≤ (dW fs F b { dW fs F c d with lp:=(dW fs F c d).lp + 1 }).lc:=h2.lc0
    have hz:nszL p.l = nsz c + nsz b:=by rw [hl,nszL,nszL,nszL];omega
    have:=h1.sl;have:=h1.cl;have:=h1.see;have:=h1.lc;have:=h1.lc0;have:=h1.lp
    rw [hz]
    refine ⟨?_,?_,?_,?_,?_,?_⟩
    ·show (dW fs F b _).sl.length ≤ _;omega
    ·show (dW fs F b _).cl.length ≤ _;omega
    ·show (dW fs F b _).see.length ≤ _;omega
    ·show (dW fs F b _).lc ≤ _;omega
    ·show _ ≤ (dW fs F b _).lc;omega
    ·show (dW fs F b _).lp - 1 = _;omega
   ·exact LE.refl _ _
  split
  ·split
   ·exact ⟨by show d.sl.length ≤ _;omega,by show d.cl.length ≤ _;omega,by show d.see.length ≤ _;omega,by show d.lc ≤ _;omega,by show d.lc ≤ d.lc;omega,rfl⟩
   ·exact LE.refl _ _
  ·have h1:=fold_le fs F (fun q e => dW_le fs F q e) p.l (dBeg p.k p.s d)
   obtain ⟨b1,b2,b3,b4,b5,b6⟩:=dBeg_le p.k p.s d
   obtain ⟨h2,h3⟩:=dEnd_le fs p.k p.s p.l.length d.see.length (p.l.foldl (fun d x => dW fs F x d) (dBeg p.k p.s d))
   rcases h3 with h3 | h3
   ·rw [b6 h3] at h1 h2 ⊢
    rw [Nat.add_comm]
    exact h1.trans h2
   ·rw [h3]
    refine ⟨by have:=h1.sl;omega,by have:=h1.cl;rw [b2] at this;omega,by have:=h1.see;rw [b3] at this;omega,by have:=h1.lc;rw [b4] at this;omega,by have:=h1.lc0;rw [b4] at this;omega,h1.lp.trans b5⟩
theorem fnd_hit {see:List (ByteArray × Int)} {s:ByteArray} {i:Nat} {p:ByteArray × Int} (hp:see[i]? = some p) (hm:(p.1.data.toList == s.data.toList) = true) (hn:∀ q ∈ see.drop (i + 1),(q.1.data.toList == s.data.toList) = false):fnd see s = some p.2:=by
 have hlt:=(List.getElem?_eq_some_iff.1 hp).1
 have hsp:see = see.take i ++ p :: see.drop (i + 1):=by
  have h1:=List.take_append_drop i see
  rw [List.drop_eq_getElem_cons hlt,(List.getElem?_eq_some_iff.1 hp).2] at h1
  exact h1.symm
 unfold fnd lkp
 rw [hsp,List.reverse_append,List.reverse_cons,List.append_assoc,List.find?_append]
 rw [List.find?_eq_none.2 (fun q hq => by simp [hn q (by simpa using hq)]),Option.none_or,List.singleton_append,List.find?_cons,hm]
 rfl
theorem fnd_miss {see:List (ByteArray × Int)} {s:ByteArray} (hn:∀ q ∈ see,(q.1.data.toList == s.data.toList) = false):fnd see s = none:=by
 unfold fnd lkp
 rw [List.find?_eq_none.2 (fun q hq => by simp [hn q (by simpa using hq)])]
 rfl
theorem fnd_pos {see:List (ByteArray × Int)} {s:ByteArray} {v:Int} (hp:∀ p ∈ see,0 ≤ p.2) (h:fnd see s = some v):0 ≤ v:=by
 unfold fnd lkp at h
 cases hf:see.reverse.find? (fun p => p.1.data.toList == s.data.toList) with
 | none => rw [hf] at h;cases h
 | some q =>
  rw [hf] at h
  injection h with h
  have hm:=List.mem_of_find?_eq_some hf
  have h':q.2 = v:=h
  rw [← h']
  exact hp q (by simpa using hm)
theorem dEnd_pre {fs:List PFn} {k:Int} {s:ByteArray} {n:Nat} {d0 d:DK} (h:d0.see <+: d.see):d0.see <+: (dEnd fs k s n d0.see.length d).see:=by
 unfold dEnd
 split
 ·unfold DK.letD
  split
  ·exact h
  split
  ·exact h
  ·exact h.trans (List.prefix_append _ _)
 split
 ·show d0.see <+: d.see.take d0.see.length
  rw [pre_take h]
  exact List.prefix_refl _
 split
 ·unfold DK.callD
  repeat' split
  all_goals exact h
 ·exact h
theorem fold_pre (fs:List PFn) (F:Nat) (h:∀ (p:PN) (d:DK),d.see <+: (dW fs F p d).see):∀ (l:List PN) (d:DK),d.see <+: (l.foldl (fun d x => dW fs F x d) d).see
 | [],d => List.prefix_refl _
 | x :: l,d => by rw [List.foldl_cons];exact (h x d).trans (fold_pre fs F h l _)
theorem dW_pre (fs:List PFn):∀ (F:Nat) (p:PN) (d:DK),d.see <+: (dW fs F p d).see
 | 0,p,d => List.prefix_refl _
 | F + 1,p,d => by
  rw [dW]
  split
  ·exact List.prefix_refl _
  split
  ·split
   ·exact (dW_pre fs F _ d).trans (dW_pre fs F _ { dW fs F _ d with lp:=(dW fs F _ d).lp + 1 })
   ·exact List.prefix_refl _
  split
  ·split
   ·exact List.prefix_refl _
   ·exact List.prefix_refl _
  ·refine dEnd_pre ?_
   have h1:=fold_pre fs F (fun q e => dW_pre fs F q e) p.l (dBeg p.k p.s d)
   rw [(dBeg_le p.k p.s d).2.2.1] at h1
   exact h1
theorem idxF_none:∀ (l:List PFn) (s:ByteArray) (i:Nat),(∀ p ∈ l,(p.nm.data.toList == s.data.toList) = false) → idxF l s i = none
 | [],s,i,h => rfl
 | p :: l,s,i,h => by
  rw [idxF,if_neg (by rw [h p (by simp)];decide)]
  exact idxF_none l s (i + 1) (fun q hq => h q (by simp [hq]))
theorem idxF_some:∀ (l:List PFn) (s:ByteArray) (i j:Nat) (p:PFn),l[j]? = some p → (p.nm.data.toList == s.data.toList) = true → (∀ q ∈ l.take j,(q.nm.data.toList == s.data.toList) = false) → idxF l s i = some (i + j)
 | [],s,i,j,p,h,_,_ => by simp at h
 | q :: l,s,i,0,p,h,hm,hn => by
  obtain rfl:q = p:=by simpa using h
  rw [idxF,if_pos hm]
  rfl
 | q :: l,s,i,j + 1,p,h,hm,hn => by
  rw [idxF,if_neg (by rw [hn q (by simp)];decide),idxF_some l s (i + 1) j p (by simpa using h) hm (fun x hx => hn x (by simp [hx]))]
  congr 1
  omega
end Go.Proofs.YtgkdmgndebifiaaGreatDoor
namespace Go.Proofs.YtgkdmgndebifiaaGreatDoor
open Go.RowKit Go.Maps
abbrev ckO (fv:Value) (lc:Int) (sv cv ev:Value) (lp e:Int):Obj:=.cells #[fv,.int .i64 lc,sv,cv,ev,.int .i64 lp,.int .i64 e] 64 (0,0)
abbrev seC (p:ByteArray × Int):List Value:=[.string p.1,.int .i64 p.2]
abbrev inV (l:List Int):List Value:=l.map (fun v => .int .i64 v)
structure CS (g:Nat) (w:World) (fv:Value) (fs:List PFn) (d:DK) (sa:Option Addr) (ns sc:Nat) (ca:Option Addr) (nc cc:Nat) (ea:Option Addr) (ne ec:Nat):Prop where
 row:w.heap[g]? = some (ckO fv d.lc (.slice sa ns sc) (.slice ca nc cc) (.slice ea ne ec) d.lp d.e)
 osl:w.ownsRow (g + 1) 3 1 (.slice sa ns sc) ns (inV d.sl)
 ocl:w.ownsRow (g + 1) 3 1 (.slice ca nc cc) nc (inV d.cl)
 ose:w.ownsRow (g + 1) 67 2 (.slice ea ne ec) ne (d.see.flatMap seC)
 apart:∀ b,(Value.slice sa ns sc).ownBlock = some b → (Value.slice ca nc cc).ownBlock ≠ some b
 pos:∀ p ∈ d.see,0 ≤ p.2
 hns:d.sl.length = ns
 hnc:d.cl.length = nc
 hne:d.see.length = ne
 fl:∃ fa fcap,fv = .slice fa fs.length fcap ∧ fs.length ≤ fcap ∧ RepFL w (fun b => b < g) fs fa
structure CF (g:Nat) (w w':World):Prop where
 os:w'.os = w.os
 tape:w'.tape = w.tape
 output:w'.output = w.output
 size:w.heap.size ≤ w'.heap.size
 low:∀ b,b < g → w'.heap[b]? = w.heap[b]?
 typ:∀ b cs t fr,w.heap[b]? = some (.cells cs t fr) → b ≠ g → t ≠ 3 → t ≠ 67 → w'.heap[b]? = some (.cells cs t fr)
variable {g:Nat} {w w' w2:World} {fv:Value} {fs:List PFn} {d:DK} {sa ca ea:Option Addr} {ns sc nc cc ne ec:Nat}
theorem CF.refl (g:Nat) (w:World):CF g w w:=⟨rfl,rfl,rfl,Nat.le_refl _,fun _ _ => rfl,fun _ _ _ _ h _ _ _ => h⟩
theorem CF.trans (h:CF g w w') (k:CF g w' w2):CF g w w2:=⟨k.os.trans h.os,k.tape.trans h.tape,k.output.trans h.output,Nat.le_trans h.size k.size,fun b hb => (k.low b hb).trans (h.low b hb),fun b cs t fr hb h1 h2 h3 => k.typ b cs t fr (h.typ b cs t fr hb h1 h2 h3) h1 h2 h3⟩
theorem CF.of (hg:g < w.heap.size) (k:Ext w w'):CF g w w':=⟨k.os,k.tape,k.output,k.size,fun b hb => k.block b (by omega),fun b cs t fr hb _ _ _ => (k.block b (Array.getElem?_eq_some_iff.1 hb).1).trans hb⟩
theorem CF.set (h:CF g w w') (i:Nat) (v:Value):CF g w (w'.setCell ⟨g,i,none⟩ v):=by
 refine ⟨h.os,h.tape,h.output,by simpa [World.setCell] using h.size,fun b hb => ?_,fun b cs t fr hb h1 h2 h3 => ?_⟩
 ·rw [Below.heap_setCell _ _ _ _ (by show b ≠ g;omega)];exact h.low b hb
 ·rw [Below.heap_setCell _ _ _ _ (by show b ≠ g;exact h1)];exact h.typ b cs t fr hb h1 h2 h3
theorem CF.grow {wa w6:World} {e:TypeId} {size n:Nat} {v:Value} {xs:List Value} (ho:wa.ownsRow (g + 1) e size v n xs) (he:e = 3 ∨ e = 67) (hg:g < wa.heap.size) (hgw:wa.grownBy w6 v.ownBlock):CF g wa w6:=by
 refine ⟨hgw.os,hgw.tape,hgw.output,hgw.size,fun b hb => hgw.block b (by omega) (fun e => by have:=(ho.lt b e.symm).1;omega),fun b cs t fr hb h1 h2 h3 => ?_⟩
 refine (hgw.block b (Array.getElem?_eq_some_iff.1 hb).1 (fun e2 => ?_)).trans hb
 rcases ho.2 with ⟨rfl,_⟩ | ⟨b2,cap,cur,rfl,_,hrow,_⟩
 ·cases e2
 ·simp only [Value.ownBlock,Option.some.injEq] at e2
  subst e2
  rw [hrow] at hb
  injection hb with hb
  injection hb with _ hb _
  subst hb
  rcases he with rfl | rfl
  ·exact h2 rfl
  ·exact h3 rfl
theorem CF.rowN {k o n2:Int} {s:ByteArray} {v:Value} {B:Nat} (h:CF g w w') (hB:B ≠ g) (hr:w.heap[B]? = some (nodO k o s n2 v)):w'.heap[B]? = some (nodO k o s n2 v):=h.typ B _ _ _ hr hB (by decide) (by decide)
theorem CS.lt (h:CS g w fv fs d sa ns sc ca nc cc ea ne ec):g < w.heap.size:=(Array.getElem?_eq_some_iff.1 h.row).1
theorem own_extC {base:Nat} {e:TypeId} {size n:Nat} {v:Value} {xs:List Value} (h:w.ownsRow base e size v n xs) (k:Ext w w'):w'.ownsRow base e size v n xs:=by
 obtain ⟨h1,h2⟩:=h
 refine ⟨h1,?_⟩
 rcases h2 with h2 | ⟨b,cap,cur,q1,q2,q3,q4⟩
 ·exact Or.inl h2
 ·exact Or.inr ⟨b,cap,cur,q1,q2,(k.block b (Array.getElem?_eq_some_iff.1 q3).1).trans q3,q4⟩
theorem CS.ext (h:CS g w fv fs d sa ns sc ca nc cc ea ne ec) (k:Ext w w'):CS g w' fv fs d sa ns sc ca nc cc ea ne ec:=by
 have hg:=h.lt
 obtain ⟨fa,fcap,e1,e2,e3⟩:=h.fl
 exact ⟨(k.block g hg).trans h.row,own_extC h.osl k,own_extC h.ocl k,own_extC h.ose k,h.apart,h.pos,h.hns,h.hnc,h.hne,fa,fcap,e1,e2,e3.to (fun b hb => ⟨hb,k.block b (by omega)⟩)⟩
theorem CS.put (h:CS g w fv fs d sa ns sc ca nc cc ea ne ec) (i:Nat) (v:Value) (d':DK) (hs:d'.sl = d.sl) (hc:d'.cl = d.cl) (he:d'.see = d.see) (hrow:(w.setCell ⟨g,i,none⟩ v).heap[g]? = some (ckO fv d'.lc (.slice sa ns sc) (.slice ca nc cc) (.slice ea ne ec) d'.lp d'.e)) :
  CS g (w.setCell ⟨g,i,none⟩ v) fv fs d' sa ns sc ca nc cc ea ne ec:=by
 obtain ⟨fa,fcap,e1,e2,e3⟩:=h.fl
 exact ⟨hrow,by rw [hs];exact ownsRow_setCell_below h.osl (Nat.lt_succ_self g) v,by rw [hc];exact ownsRow_setCell_below h.ocl (Nat.lt_succ_self g) v,by rw [he];exact ownsRow_setCell_below h.ose (Nat.lt_succ_self g) v,h.apart,by rw [he];exact h.pos,by rw [hs];exact h.hns,by rw [hc];exact h.hnc,by rw [he];exact h.hne,fa,fcap,e1,e2,e3.to (fun b hb => ⟨hb,Below.heap_setCell _ _ _ _ (by show b ≠ g;omega)⟩)⟩
theorem CS.setE (h:CS g w fv fs d sa ns sc ca nc cc ea ne ec) (c:Int):CS g (w.setCell ⟨g,6,none⟩ (.int .i64 c)) fv fs { d with e:=c } sa ns sc ca nc cc ea ne ec:=h.put 6 _ { d with e:=c } rfl rfl rfl (row_set h.row 6 _)
theorem CS.setLp (h:CS g w fv fs d sa ns sc ca nc cc ea ne ec) (c:Int):CS g (w.setCell ⟨g,5,none⟩ (.int .i64 c)) fv fs { d with lp:=c } sa ns sc ca nc cc ea ne ec:=h.put 5 _ { d with lp:=c } rfl rfl rfl (row_set h.row 5 _)
theorem CS.setLc (h:CS g w fv fs d sa ns sc ca nc cc ea ne ec) (c:Int):CS g (w.setCell ⟨g,1,none⟩ (.int .i64 c)) fv fs { d with lc:=c } sa ns sc ca nc cc ea ne ec:=h.put 1 _ { d with lc:=c } rfl rfl rfl (row_set h.row 1 _)
theorem own_two {base base':Nat} {e e':TypeId} {size size' n n':Nat} {v v':Value} {xs xs':List Value} (h:w.ownsRow base e size v n xs) (h':w.ownsRow base' e' size' v' n' xs') (hne:e ≠ e'):v.ownBlock = none ∨ v.ownBlock ≠ v'.ownBlock:=by
 rcases h.2 with ⟨rfl,_⟩ | ⟨b,cap,cur,rfl,_,hrow,_⟩
 ·exact Or.inl rfl
 ·refine Or.inr (fun e1 => ?_)
  rcases h'.2 with ⟨rfl,_⟩ | ⟨b',cap',cur',rfl,_,hrow',_⟩
  ·cases e1
  ·simp only [Value.ownBlock,Option.some.injEq] at e1
   subst e1
   rw [hrow] at hrow'
   injection hrow' with hrow'
   injection hrow' with _ h2 _
   exact hne h2
theorem fl_grow {wa w6:World} {v:Value} {e:TypeId} {size n:Nat} {xs:List Value} (ho:wa.ownsRow (g + 1) e size v n xs) (hgw:wa.grownBy w6 v.ownBlock) (hg:g < wa.heap.size) (h:∃ fa fcap,fv = .slice fa fs.length fcap ∧ fs.length ≤ fcap ∧ RepFL wa (fun b => b < g) fs fa):∃ fa fcap,fv = .slice fa fs.length fcap ∧ fs.length ≤ fcap ∧ RepFL w6 (fun b => b < g) fs fa:=by
 obtain ⟨fa,fcap,e1,e2,e3⟩:=h
 exact ⟨fa,fcap,e1,e2,e3.to (fun b hb => ⟨hb,hgw.block b (by omega) (fun e => by have:=(ho.lt b e.symm).1;omega)⟩)⟩
theorem row_grow {wa w6:World} {v:Value} {e:TypeId} {size n:Nat} {xs:List Value} {ob:Obj} (ho:wa.ownsRow (g + 1) e size v n xs) (hgw:wa.grownBy w6 v.ownBlock) (h:wa.heap[g]? = some ob):w6.heap[g]? = some ob :=
 (hgw.block g (Array.getElem?_eq_some_iff.1 h).1 (fun e => by have:=(ho.lt g e.symm).1;omega)).trans h
theorem CS.pushSl {wa w6:World} {g' cap':Nat} {x:Int} (h:CS g wa fv fs d sa ns sc ca nc cc ea ne ec) (ho:w6.ownsRow (g + 1) 3 1 (.slice (some ⟨g',0,none⟩) (ns + 1) cap') (ns + 1) (inV d.sl ++ [.int .i64 x])) (hgw:wa.grownBy w6 (Value.slice sa ns sc).ownBlock) (hw:(Value.slice sa ns sc).ownBlock = some g' ∨ wa.heap.size ≤ g') :
  CS g (w6.setCell ⟨g,2,none⟩ (.slice (some ⟨g',0,none⟩) (ns + 1) cap')) fv fs { d with sl:=d.sl ++ [x] } (some ⟨g',0,none⟩) (ns + 1) cap' ca nc cc ea ne ec ∧ CF g wa (w6.setCell ⟨g,2,none⟩ (.slice (some ⟨g',0,none⟩) (ns + 1) cap')):=by
 have hg:=h.lt
 have c1:w6.ownsRow (g + 1) 3 1 (.slice ca nc cc) nc (inV d.cl):=h.ocl.kept hgw (by
  cases hv:(Value.slice ca nc cc).ownBlock with
  | none => exact Or.inl rfl
  | some b => exact Or.inr (fun e => h.apart b e.symm hv))
 have c2:w6.ownsRow (g + 1) 67 2 (.slice ea ne ec) ne (d.see.flatMap seC):=h.ose.kept hgw (own_two h.ose h.osl (by decide))
 have hr:=row_grow h.osl hgw h.row
 obtain ⟨fa,fcap,e1,e2,e3⟩:=fl_grow h.osl hgw hg h.fl
 refine ⟨⟨row_set hr 2 _,?_,ownsRow_setCell_below c1 (Nat.lt_succ_self g) _,ownsRow_setCell_below c2 (Nat.lt_succ_self g) _,?_,h.pos,by simp [h.hns],h.hnc,h.hne,fa,fcap,e1,e2,e3.to (fun b hb => ⟨hb,Below.heap_setCell _ _ _ _ (by show b ≠ g;omega)⟩)⟩,(CF.grow h.osl (Or.inl rfl) hg hgw).set 2 _⟩
 ·show (w6.setCell _ _).ownsRow (g + 1) 3 1 _ (ns + 1) (inV (d.sl ++ [x]))
  unfold inV
  rw [List.map_append]
  exact ownsRow_setCell_below ho (Nat.lt_succ_self g) _
 ·intro b hb e
  simp only [Value.ownBlock,Option.some.injEq] at hb
  subst hb
  rcases hw with hw | hw
  ·exact h.apart _ hw e
  ·have:=(h.ocl.lt _ e).2
   omega
theorem CS.pushCl {wa w6:World} {g' cap':Nat} {x:Int} (h:CS g wa fv fs d sa ns sc ca nc cc ea ne ec) (ho:w6.ownsRow (g + 1) 3 1 (.slice (some ⟨g',0,none⟩) (nc + 1) cap') (nc + 1) (inV d.cl ++ [.int .i64 x])) (hgw:wa.grownBy w6 (Value.slice ca nc cc).ownBlock) (hw:(Value.slice ca nc cc).ownBlock = some g' ∨ wa.heap.size ≤ g') :
  CS g (w6.setCell ⟨g,3,none⟩ (.slice (some ⟨g',0,none⟩) (nc + 1) cap')) fv fs { d with cl:=d.cl ++ [x] } sa ns sc (some ⟨g',0,none⟩) (nc + 1) cap' ea ne ec ∧ CF g wa (w6.setCell ⟨g,3,none⟩ (.slice (some ⟨g',0,none⟩) (nc + 1) cap')):=by
 have hg:=h.lt
 have c1:w6.ownsRow (g + 1) 3 1 (.slice sa ns sc) ns (inV d.sl):=h.osl.kept hgw (by
  cases hv:(Value.slice sa ns sc).ownBlock with
  | none => exact Or.inl rfl
  | some b => exact Or.inr (fun e => h.apart b hv e.symm))
 have c2:w6.ownsRow (g + 1) 67 2 (.slice ea ne ec) ne (d.see.flatMap seC):=h.ose.kept hgw (own_two h.ose h.ocl (by decide))
 have hr:=row_grow h.ocl hgw h.row
 obtain ⟨fa,fcap,e1,e2,e3⟩:=fl_grow h.ocl hgw hg h.fl
 refine ⟨⟨row_set hr 3 _,ownsRow_setCell_below c1 (Nat.lt_succ_self g) _,?_,ownsRow_setCell_below c2 (Nat.lt_succ_self g) _,?_,h.pos,h.hns,by simp [h.hnc],h.hne,fa,fcap,e1,e2,e3.to (fun b hb => ⟨hb,Below.heap_setCell _ _ _ _ (by show b ≠ g;omega)⟩)⟩,(CF.grow h.ocl (Or.inl rfl) hg hgw).set 3 _⟩
 ·show (w6.setCell _ _).ownsRow (g + 1) 3 1 _ (nc + 1) (inV (d.cl ++ [x]))
  unfold inV
  rw [List.map_append]
  exact ownsRow_setCell_below ho (Nat.lt_succ_self g) _
 ·intro b hb e
  simp only [Value.ownBlock,Option.some.injEq] at e
  subst e
  rcases hw with hw | hw
  ·exact h.apart _ hb hw
  ·have:=(h.osl.lt _ hb).2
   omega
theorem CS.pushSee {wa w6:World} {g' cap':Nat} {s:ByteArray} {x:Int} (h:CS g wa fv fs d sa ns sc ca nc cc ea ne ec) (hx:0 ≤ x) (ho:w6.ownsRow (g + 1) 67 2 (.slice (some ⟨g',0,none⟩) (ne + 1) cap') (ne + 1) (d.see.flatMap seC ++ [.string s,.int .i64 x])) (hgw:wa.grownBy w6 (Value.slice ea ne ec).ownBlock) :
  CS g (w6.setCell ⟨g,4,none⟩ (.slice (some ⟨g',0,none⟩) (ne + 1) cap')) fv fs { d with see:=d.see ++ [(s,x)] } sa ns sc ca nc cc (some ⟨g',0,none⟩) (ne + 1) cap' ∧ CF g wa (w6.setCell ⟨g,4,none⟩ (.slice (some ⟨g',0,none⟩) (ne + 1) cap')):=by
 have hg:=h.lt
 have c1:w6.ownsRow (g + 1) 3 1 (.slice sa ns sc) ns (inV d.sl):=h.osl.kept hgw (own_two h.osl h.ose (by decide))
 have c2:w6.ownsRow (g + 1) 3 1 (.slice ca nc cc) nc (inV d.cl):=h.ocl.kept hgw (own_two h.ocl h.ose (by decide))
 have hr:=row_grow h.ose hgw h.row
 obtain ⟨fa,fcap,e1,e2,e3⟩:=fl_grow h.ose hgw hg h.fl
 refine ⟨⟨row_set hr 4 _,ownsRow_setCell_below c1 (Nat.lt_succ_self g) _,ownsRow_setCell_below c2 (Nat.lt_succ_self g) _,?_,h.apart,?_,h.hns,h.hnc,by simp [h.hne],fa,fcap,e1,e2,e3.to (fun b hb => ⟨hb,Below.heap_setCell _ _ _ _ (by show b ≠ g;omega)⟩)⟩,(CF.grow h.ose (Or.inr rfl) hg hgw).set 4 _⟩
 ·show (w6.setCell _ _).ownsRow (g + 1) 67 2 _ (ne + 1) ((d.see ++ [(s,x)]).flatMap seC)
  rw [List.flatMap_append]
  exact ownsRow_setCell_below ho (Nat.lt_succ_self g) _
 ·intro p hp
  rcases List.mem_append.1 hp with hp | hp
  ·exact h.pos p hp
  ·simp at hp;subst hp;exact hx
theorem own_cut {base:Nat} {e:TypeId} {n cap mark:Nat} {a:Option Addr} {xs:List Value} (h:w.ownsRow base e 2 (.slice a n cap) n xs) (hm:mark ≤ n):w.ownsRow base e 2 (.slice a mark cap) mark (xs.take (mark * 2)):=by
 obtain ⟨h1,h2⟩:=h
 refine ⟨by rw [List.length_take,h1];omega,?_⟩
 rcases h2 with ⟨q1,q2⟩ | ⟨b,cap2,cur,q1,q2,q3,q4,q5,q6,q7⟩
 ·injection q1 with q1 q8 q9
  subst q1 q9
  exact Or.inl ⟨by rw [show mark = 0 by omega],by omega⟩
 ·injection q1 with q1 q8 q9
  subst q1 q9
  refine Or.inr ⟨b,cap,cur,rfl,q2,q3,by omega,q5,q6,?_⟩
  rw [← q7,List.take_take]
  congr 1
  omega
theorem seC_take:∀ (l:List (ByteArray × Int)) (m:Nat),(l.flatMap seC).take (m * 2) = (l.take m).flatMap seC
 | [],m => by simp
 | p :: l,0 => by simp
 | p :: l,m + 1 => by
  rw [List.flatMap_cons,List.take_succ_cons,List.flatMap_cons,← seC_take l m]
  show ([Value.string p.1,.int .i64 p.2] ++ l.flatMap seC).take ((m + 1) * 2) = _
  rw [show (m + 1) * 2 = m * 2 + 2 by omega]
  rfl
theorem CS.cut (h:CS g w fv fs d sa ns sc ca nc cc ea ne ec) (mark:Nat) (hm:mark ≤ ne) :
  CS g (w.setCell ⟨g,4,none⟩ (.slice ea mark ec)) fv fs { d with see:=d.see.take mark } sa ns sc ca nc cc ea mark ec:=by
 obtain ⟨fa,fcap,e1,e2,e3⟩:=h.fl
 have ho:=own_cut h.ose hm
 rw [seC_take] at ho
 exact ⟨row_set h.row 4 _,ownsRow_setCell_below h.osl (Nat.lt_succ_self g) _,ownsRow_setCell_below h.ocl (Nat.lt_succ_self g) _,ownsRow_setCell_below ho (Nat.lt_succ_self g) _,h.apart,fun p hp => h.pos p (List.mem_of_mem_take hp),h.hns,h.hnc,by rw [List.length_take,h.hne];omega,fa,fcap,e1,e2,e3.to (fun b hb => ⟨hb,Below.heap_setCell _ _ _ _ (by show b ≠ g;omega)⟩)⟩
theorem see_cell:∀ (l:List (ByteArray × Int)) (i:Nat) (p:ByteArray × Int),l[i]? = some p → (l.flatMap seC)[i * 2]? = some (.string p.1) ∧ (l.flatMap seC)[i * 2 + 1]? = some (.int .i64 p.2)
 | [],i,p,h => by simp at h
 | q :: l,0,p,h => by
  obtain rfl:q = p:=by simpa using h
  exact ⟨rfl,rfl⟩
 | q :: l,i + 1,p,h => by
  have ih:=see_cell l i p (by simpa using h)
  rw [List.flatMap_cons,show (i + 1) * 2 = i * 2 + 2 by omega]
  exact ih
theorem CS.at (h:CS g w fv fs d sa ns sc ca nc cc ea ne ec) (i:Nat) (p:ByteArray × Int) (hp:d.see[i]? = some p):∃ b,ea = some ⟨b,0,none⟩ ∧ w.cell? ⟨b,i * 2,none⟩ = some (.string p.1) ∧ w.cell? ⟨b,i * 2 + 1,none⟩ = some (.int .i64 p.2):=by
 obtain ⟨c0,c1⟩:=see_cell d.see i p hp
 have hlt:=(List.getElem?_eq_some_iff.1 hp).1
 have hne:=h.hne
 rcases h.ose.2 with ⟨q1,q2⟩ | ⟨b,cap2,cur,q1,q2,q3,q4,q5,q6,q7⟩
 ·omega
 ·injection q1 with q1 q8 q9
  subst q1 q9
  have hc:=cells_own h.ose
  refine ⟨b,rfl,?_,?_⟩
  ·have:=hc _ _ c0
   rw [Nat.zero_add] at this
   exact this
  ·have:=hc _ _ c1
   rw [Nat.zero_add] at this
   exact this
theorem nrm_inC {Q:Exit → Act → World → Prop} {a:Act} {w:World} (h:Q .normal a w):Nrm Q .normal a w:=h
end Go.Proofs.YtgkdmgndebifiaaGreatDoor
