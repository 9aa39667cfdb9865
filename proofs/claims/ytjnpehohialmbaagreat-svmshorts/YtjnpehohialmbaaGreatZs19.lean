/- The document's answer: all words of a text. -/
import Derived.Test.YtjnpehohialmbaaGreatZs18
set_option linter.unusedSimpArgs false
set_option linter.unusedVariables false
set_option maxRecDepth 10000
set_option maxHeartbeats 40000000
namespace Go.Proofs.YtjnpehohialmbaaGreat
open Go.RowKit
section
theorem infoTokR:(Tryz.prog.info? 105).map (fun i=>(i.zero,i.size,i.bytes))=some (some (tokV 0 ⟨#[]⟩ 0 0),4,40):=by kernel_rfl
structure Three (w:World) (g:Nat) (v:Value) (n o:Int):Prop where
 c0:w.cell? ⟨g,0,none⟩=some v
 c1:w.cell? ⟨g,1,none⟩=some (.int .i64 n)
 c2:w.cell? ⟨g,2,none⟩=some (.int .i64 o)
 fz:∀ i,w.frozen? ⟨g,i,none⟩=false
theorem Three.new (w:World) (ty:TypeId) (v:Value) (n o:Int):Three (w.alloc (.cells #[v,.int .i64 n,.int .i64 o] ty)) w.heap.size v n o :=
 ⟨cell_box w _ ty 0 rfl,cell_box w _ ty 1 rfl,cell_box w _ ty 2 rfl,fun i=>frozen_of_row _ _ i _ ty (Go.heap_alloc_new w _)⟩
theorem Three.on {w w':World} {g:Nat} {v:Value} {n o:Int} (h:Three w g v n o) (e:Ext w w'):Three w' g v n o :=
 ⟨e.cell h.c0,e.cell h.c1,e.cell h.c2,fun i=>(Below.frozen e (p:=⟨g,i,none⟩) (World.block_lt_of_cell? w ⟨g,0,none⟩ h.c0)).trans (h.fz i)⟩
theorem set3_ext {w w':World} (h:Ext w w') (g:Nat) (hg:w.heap.size≤g) (v:Value) (n o:Int):Ext w (((w'.setCell ⟨g,0,none⟩ v).setCell ⟨g,1,none⟩ (.int .i64 n)).setCell ⟨g,2,none⟩ (.int .i64 o)) :=
 ((h.set hg _).set hg _).set hg _
structure LR (s:ByteArray) (W wr:World) (k f:Nat) (acc:List Tk) (v:Value):Prop where
 eq:lexF (s.size+1) s 0=(acc++(lexF f s k).1,(lexF f s k).2)
 fuel:s.size - k < f
 len:acc.length≤k
 own:wr.ownsRow W.heap.size 105 4 v acc.length (acc.flatMap tkC)
 ext:Ext W wr
theorem LR.start (s:ByteArray) (W:World):LR s W W 0 (s.size+1) [] (.slice none 0 0) :=
 ⟨by simp,by omega,Nat.le_refl _,World.ownsRow_nil W _ _ _,Ext.refl _⟩
theorem lex_skip (f:Nat) (s:ByteArray) (k j:Nat) (h:k+skp false ((L s).drop k)=j+skp false ((L s).drop j)):lexF f s k=lexF f s j:=by
 cases f with
 | zero=>rfl
 | succ g=>rw[lexF,lexF,h]
theorem LR.skip {s:ByteArray} {W wr:World} {k f j:Nat} {acc:List Tk} {v:Value} (h:LR s W wr k f acc v) (hj:k≤j) (hs:k+skp false ((L s).drop k)=j+skp false ((L s).drop j)):LR s W wr j f acc v :=
 ⟨by rw[h.eq,lex_skip f s k j hs],by have:=h.fuel;omega,by have:=h.len;omega,h.own,h.ext⟩
theorem LR.done {s:ByteArray} {W wr:World} {k f:Nat} {acc:List Tk} {v:Value} (h:LR s W wr k f acc v) (hb:s.size≤k):lexF (s.size+1) s 0=(acc,none):=by
 have hf:=h.fuel;obtain⟨g,rfl⟩:∃ g,f=g+1:=⟨f - 1,by omega⟩;rw[h.eq,lexF,if_pos (by omega)];simp
theorem LR.bad {s:ByteArray} {W wr:World} {k f:Nat} {acc:List Tk} {v:Value} (h:LR s W wr k f acc v) (hb:k < s.size) (hk:skp false ((L s).drop k)=0) (ht:tokT s k=none):lexF (s.size+1) s 0=(acc,some k):=by
 have hf:=h.fuel;obtain⟨g,rfl⟩:∃ g,f=g+1:=⟨f - 1,by omega⟩;rw[h.eq,lexF,hk,if_neg (by omega),Nat.add_zero,ht];simp
theorem LR.next {s:ByteArray} {W wr w1 w2:World} {k f:Nat} {acc:List Tk} {v v':Value} {kd:Int} {t:ByteArray} {n:Int} {m:Nat} (h:LR s W wr k f acc v) (hb:k < s.size) (hk:skp false ((L s).drop k)=0) (ht:tokT s k=some (kd,t,n,m))
  (hx:Ext wr w1) (hown':w2.ownsRow W.heap.size 105 4 v' (acc.length+1) (acc.flatMap tkC++[.int .i64 kd,.string t,.int .i64 n,.int .i64 (k:Int)])) (hgrow:w1.grownBy w2 v.ownBlock) :
  LR s W w2 m (f - 1) (acc++[⟨kd,t,n,k⟩]) v':=by
 have hf:=h.fuel;have hm:=tok_lt s _ _ _ _ _ ht;refine⟨?_,by omega,?_,?_,?_⟩
 ·obtain⟨g,rfl⟩:∃ g,f=g+1:=⟨f - 1,by omega⟩
  rw[h.eq,lexF,hk,if_neg (by omega),Nat.add_zero,ht];simp
 ·rw[List.length_append];have:=h.len;simp;omega
 ·rw[List.length_append,List.flatMap_append];exact hown'
 ·refine Below.grown (h.ext.trans hx) hgrow (h.ext.trans hx).le ?_
  intro j hj;obtain⟨_,h | ⟨g,cap,cur,h,hg,_⟩⟩:=h.own
  ·rw[h.1] at hj;cases hj
  ·rw[h] at hj;cases hj;exact hg
theorem own_shape {w:World} {base:Nat} {e:TypeId} {size:Nat} {v:Value} {n:Nat} {xs:List Value} (h:w.ownsRow base e size v n xs):∃ a m c,v = .slice a m c:=by
 obtain⟨_,⟨h,_⟩ | ⟨g,cap,cur,h,_⟩⟩:=h
 ·exact⟨_,_,_,h⟩
 ·exact⟨_,_,_,h⟩
theorem own_set {w:World} {base:Nat} {e:TypeId} {size:Nat} {v:Value} {n:Nat} {xs:List Value} (h:w.ownsRow base e size v n xs) {g:Nat} (hg:g < base) (i:Nat) (u:Value):(w.setCell ⟨g,i,none⟩ u).ownsRow base e size v n xs:=by
 refine h.kept (row:=some g) ⟨rfl,rfl,rfl,by simp[World.setCell],fun k _ hne=>Below.heap_setCell _ _ _ _ (fun e=>hne (by rw[e]))⟩ ?_;rcases hb:v.ownBlock with _ | x
 ·exact Or.inl rfl
 ·refine Or.inr ?_
  have:=h.lt x hb;intro e;injection e with e;omega
def RToks (s:ByteArray) (w:World) (e:Ending) (w':World):Prop :=
 (4000 < s.size∧e = .returned (.agg #[.slice none 0 0,.int .i64 0,.int .i64 2])∧Ext w w') ∨
 (s.size≤4000∧∃ b:Nat,(lexF (s.size+1) s 0).2=some b∧e = .returned (.agg #[.slice none 0 0,.int .i64 b,.int .i64 10])∧Ext w w') ∨
 (s.size≤4000∧(lexF (s.size+1) s 0).2=none∧∃ v base,e = .returned (.agg #[v,.int .i64 0,.int .i64 0])∧w.heap.size≤base∧w'.ownsRow base 105 4 v (lexF (s.size+1) s 0).1.length ((lexF (s.size+1) s 0).1.flatMap tkC)∧Ext w w')
theorem rtokens_long (s:ByteArray) (w:World) (hs:4000 < s.size) (hmax:s.size≤9223372036854775807):Calls Tryz.prog 13 #[.string s] w (RToks s w):=by
 go_enter Tryz.func13,Tryz.ntmps13
 go_wp2
 exact bodyPost_ret (v:=.agg #[.slice none 0 0,.int .i64 0,.int .i64 2]) (by simp[results,Tryz.results13,go_sem]) rfl (Or.inl ⟨hs,rfl,Ext.alloc _ _⟩)
theorem skp_blank (s:ByteArray) (k:Nat) (h:k < s.size) (hb:bl s[k]=true):k+skp false ((L s).drop k)=(k+1)+skp false ((L s).drop (k+1)):=by
 rw[L_drop s k h,skp,if_pos hb];omega
theorem skp_hash (s:ByteArray) (k:Nat) (h:k < s.size) (h35:s[k].toNat=35):k+skp false ((L s).drop k)=(k+run ln ((L s).drop k))+skp false ((L s).drop (k+run ln ((L s).drop k))):=by
 have:=skp_mark s[k] ((L s).drop (k+1)) h35;rw[← L_drop s k h,List.drop_drop] at this;omega
theorem skp_none (s:ByteArray) (k:Nat) (h:k < s.size) (hb:¬ bl s[k]=true) (h35:¬ s[k].toNat=35):skp false ((L s).drop k)=0:=by
 rw[L_drop s k h,skp,if_neg hb,if_neg h35]
theorem run_step (p:UInt8→Bool) (s:ByteArray) (j:Nat) (h:j < s.size) (hp:p s[j]=true):j+run p ((L s).drop j)=(j+1)+run p ((L s).drop (j+1)):=by
 rw[L_drop s j h,run,if_pos hp];omega
theorem run_stop (p:UInt8→Bool) (s:ByteArray) (j:Nat) (h:j < s.size) (hp:p s[j]=false):run p ((L s).drop j)=0:=by
 rw[L_drop s j h,run,hp];rfl
theorem run_out (p:UInt8→Bool) (s:ByteArray) (j:Nat) (h:s.size≤j):run p ((L s).drop j)=0:=by
 rw[L_end s j h];rfl
theorem tok_num {s:ByteArray} {k:Nat} (h:k < s.size) (hd:dg s[k]=true):tokT s k=numT s k:=by
 unfold tokT;rw[L_get s k h];show (if dg s[k]=true then _ else _)=_;rw[if_pos hd]
theorem tok_name {s:ByteArray} {k:Nat} (h:k < s.size) (hd:dg s[k]=false) (hn:nm s[k]=true):tokT s k=nameT s k:=by
 unfold tokT;rw[L_get s k h];show (if dg s[k]=true then _ else if nm s[k]=true then _ else _)=_;rw[hd,hn];rfl
theorem tok_text {s:ByteArray} {k:Nat} (h:k < s.size) (hd:dg s[k]=false) (hn:nm s[k]=false) (hq:s[k].toNat=34):tokT s k=textT s k:=by
 unfold tokT;rw[L_get s k h];show (if dg s[k]=true then _ else if nm s[k]=true then _ else if s[k].toNat=34 then _ else _)=_;rw[hd,hn,if_pos hq];rfl
theorem tok_op {s:ByteArray} {k:Nat} (h:k < s.size) (hd:dg s[k]=false) (hn:nm s[k]=false) (hq:¬ s[k].toNat=34):tokT s k=opT s k:=by
 unfold tokT;rw[L_get s k h];show (if dg s[k]=true then _ else if nm s[k]=true then _ else if s[k].toNat=34 then _ else _)=_;rw[hd,hn,if_neg hq];rfl
theorem rtokens_short (s:ByteArray) (w:World) (hs:s.size≤4000):Calls Tryz.prog 13 #[.string s] w (RToks s w):=by
 obtain⟨i0,hi,hz0,hz1,hz2⟩:=info_parts infoTokR;have HI:=zh hi;have Z0:=zh hz0;have Z1:=zh hz1;have Z2:=zh hz2;have F0:=zh (Three.new w 63 (.slice none 0 0) 0 0);clear hi hz0 hz1 hz2;obtain⟨W0,hW0⟩:∃ W0,W0=(w.alloc (.cells #[.slice none 0 0,.int .i64 0,.int .i64 0] 63)):=⟨_,rfl⟩;have HW:=zh hW0;have hX0:Ext w W0:=by rw[hW0];exact Ext.alloc _ _
 have X0:=zh hX0;rw[← hW0] at F0;clear hW0 hX0;obtain⟨PQ,hPQ⟩:∃ PQ:Ending→World→Prop,PQ=RToks s w:=⟨_,rfl⟩;rw[← hPQ];have HPQ:=zh hPQ;clear hPQ
 go_enter Tryz.func13,Tryz.ntmps13
 go_wp2
 rw[← zu HW]
 go_loopw [3,4] (fun v i wr => ∃ (k f:Nat) (acc:List Tk),k≤s.size∧i = .int .i64 k∧Hd (LR s W0 wr k f acc v)) (fun _ i _=>s.size - (intOf i).toNat)
 case atStart=>exact⟨0,_,_,Nat.zero_le _,rfl,LR.start s W0⟩
 case round =>
  obtain⟨k,f,acc,hk,rfl,hI⟩:=hrel;by_cases hlt:k < s.size
  ·by_cases hb:bl s[k]=true
   ·as_aux_lemma =>
     have hb':=(bl_iff _).1 hb;have hN:=zh ((zu hI).skip (Nat.le_succ k) (skp_blank s k hlt hb));clear hb;rcases (show ((s[k].toNat:Int) == 32)=true∨(((s[k].toNat:Int) == 32)=false∧((s[k].toNat:Int) == 9)=true)∨(((s[k].toNat:Int) == 32)=false∧((s[k].toNat:Int) == 9)=false∧((s[k].toNat:Int) == 10)=true)∨(((s[k].toNat:Int) == 32)=false∧((s[k].toNat:Int) == 9)=false∧((s[k].toNat:Int) == 10)=false∧((s[k].toNat:Int) == 13)=true) by simp;omega) with b1 | ⟨b1,b2⟩ | ⟨b1,b2,b3⟩ | ⟨b1,b2,b3,b4⟩
     all_goals
      clear hb'
      go_wp2
      go_roundw
      case rel=>exact⟨k+1,_,_,by omega,by go_num,hN⟩
      case measure=>simp[intOf];omega
   ·by_cases h35:s[k].toNat=35
    ·as_aux_lemma =>
      have b1:((s[k].toNat:Int) == 32)=false:=by simp;omega
      have b2:((s[k].toNat:Int) == 9)=false:=by simp;omega
      have b3:((s[k].toNat:Int) == 10)=false:=by simp;omega
      have b4:((s[k].toNat:Int) == 13)=false:=by simp;omega
      have b5:((s[k].toNat:Int) == 35)=true:=by simp;omega
      have hN:=zh (fun j (hj:k≤j) (e:j=k+run ln ((L s).drop k))=>(zu hI).skip hj (by rw[e];exact skp_hash s k hlt h35));have hP:Hd (1≤run ln ((L s).drop k)):=by
       rw[L_drop s k hlt];exact run_pos (by rw[ln_iff];omega)
      clear hb h35
      go_wp2
      go_hide hQ
      go_loop [4] (fun i => ∃ j:Nat,k≤j∧j≤s.size∧i = .int .i64 j∧Hd (j+run ln ((L s).drop j)=k+run ln ((L s).drop k))) (fun i=>s.size - (intOf i).toNat)
      case atStart=>exact⟨k,Nat.le_refl _,hk,rfl,rfl⟩
      case round =>
       obtain⟨j,hkj,hj,rfl,hJ⟩:=hrel;by_cases hjl:j < s.size
       ·by_cases h10:s[j].toNat=10
        ·have g1:((s[j].toNat:Int) != 10)=false:=by simp;omega
         have hE:Hd (j=k+run ln ((L s).drop k)):=by
          have:=zu hJ;rw[run_stop ln s j hjl (by simp[ln,h10])] at this;exact this
         clear h10
         go_wp2
         subst hQ
         go_wp2
         go_roundw
         case rel=>exact⟨j,_,_,hj,rfl,zu hN j hkj (zu hE)⟩
         case measure=>have:=zu hE;have:=zu hP;simp[intOf];omega
        ·have g1:((s[j].toNat:Int) != 10)=true:=by simp;omega
         have hE:Hd (j+1+run ln ((L s).drop (j+1))=k+run ln ((L s).drop k)):=by
          have:=zu hJ;rw[run_step ln s j hjl (by rw[ln_iff];exact h10)] at this;exact this
         clear h10
         go_wp2
         go_round
         case rel=>exact⟨j+1,by omega,by omega,by go_num,hE⟩
         case measure=>simp[intOf];omega
       ·have hE:Hd (j=k+run ln ((L s).drop k)):=by
         have:=zu hJ;rw[run_out ln s j (by omega)] at this;exact this
        go_wp2
        subst hQ
        go_wp2
        go_roundw
        case rel=>exact⟨j,_,_,hj,rfl,zu hN j hkj (zu hE)⟩
        case measure=>have:=zu hE;have:=zu hP;simp[intOf];omega
    ·have hsk:=zh (skp_none s k hlt hb h35)
     have hb':¬ _:=fun h=>hb ((bl_iff _).2 h);have b1:((s[k].toNat:Int) == 32)=false:=by simp;omega
     have b2:((s[k].toNat:Int) == 9)=false:=by simp;omega
     have b3:((s[k].toNat:Int) == 10)=false:=by simp;omega
     have b4:((s[k].toNat:Int) == 13)=false:=by simp;omega
     have b5:((s[k].toNat:Int) == 35)=false:=by simp;omega
     clear hb hb' h35;cases hd:dg s[k] with
     | true =>
      as_aux_lemma =>
       go_wp2_with (go_at_call 27;refine Calls.mono (rdigit_any _ _) ?_;rintro e w1 ⟨rfl,hw⟩;obtain rfl:=hw.symm)
       go_hide hQ
       go_loop [6] (fun x => ∃ j:Nat,k≤j∧j≤s.size∧x = .int .i64 j∧Hd (j+run dg ((L s).drop j)=k+run dg ((L s).drop k))) (fun x=>s.size - (intOf x).toNat)
       case atStart=>exact⟨k,Nat.le_refl _,hk,rfl,rfl⟩
       case round =>
        obtain⟨j,hkj,hj,rfl,hJ⟩:=hrel;by_cases hjl:j < s.size
        ·cases hp:dg s[j] with
         | true =>
          have hE:Hd (j+1+run dg ((L s).drop (j+1))=k+run dg ((L s).drop k)):=by
           have:=zu hJ;rw[run_step dg s j hjl hp] at this;exact this
          go_wp2_with (go_at_call 27;refine Calls.mono (rdigit_any _ _) ?_;rintro e w1 ⟨rfl,hw⟩;obtain rfl:=hw.symm)
          go_round
          case rel=>exact⟨j+1,by omega,by omega,by go_num,hE⟩
          case measure=>simp[intOf];omega
         | false =>
          have hE:Hd (j=k+run dg ((L s).drop k)):=by
           have:=zu hJ;rw[run_stop dg s j hjl hp] at this;exact this
          clear hJ
          go_wp2_with (go_at_call 27;refine Calls.mono (rdigit_any _ _) ?_;rintro e w1 ⟨rfl,hw⟩;obtain rfl:=hw.symm)
          subst hQ;have HT0:Hd (tokT s k=numT s k∧j=k+nd s k):=⟨tok_num hlt hd,zu hE⟩;have hx9:(s.extract k j).size≤4000:=by rw[ByteArray.size_extract];omega
          have hLx:L (s.extract k j)=((L s).drop k).take (nd s k):=by rw[L_extract,(zu HT0).2,Nat.add_sub_cancel_left]
          have HN:=zh (fun W=>rnumber_any (s.extract k j) W hx9 (by rw[hLx];exact run_take _));have hnR:numR (L (s.extract k j))=if nv s k≤9223372036854775807 then some (nv s k) else none:=by rw[hLx];exact rfl
          rw[hnR] at HN;have hkj1:k+1≤j:=by
           have:=zu hE;have h1:1≤run dg ((L s).drop k):=by rw[L_drop s k hlt];exact run_pos hd
           omega
          clear hnR hLx hx9 hE;obtain⟨q,hV⟩:∃ q,Hd (nv s k=q):=⟨_,rfl⟩;rw[zu hV] at HN;have hIj:=zh (isI_at s j hjl);have hNj:=zh (nmAt_at s j hjl);cases hi105:((s[j].toNat:Int) == 105) with
          | false =>
           by_cases hv:q≤9223372036854775807
           ·rw[if_pos hv] at HN
            replace HN:Hd (∀ W,Calls Tryz.prog 28 #[.string (s.extract k j)] W fun e w'=>e = .returned (.tuple #[.int .i64 (q:Nat),.bool true])∧w' = W):=zu HN;have hqi:(q:Int)≤9223372036854775807:=by omega
            cases hnm:nm s[j] with
            | true =>
             as_aux_lemma =>
              have hB:=zh ((zu hI).bad hlt (zu hsk) (by rw[(zu HT0).1];unfold numT;rw[← (zu HT0).2,zu hV,if_neg (by omega),zu hIj,hi105,if_neg (by decide),zu hNj,hnm,if_pos rfl]));have f3:=(zu F0).on (zu hI).ext;have z0:=f3.c0;have z1:=f3.c1;have z2:=f3.c2;have zf:=f3.fz;clear f3;have hz:w.heap.size < wr.heap.size:=World.block_lt_of_cell? wr ⟨w.heap.size,0,none⟩ z0;clear HT0 hV
              go_wp2_with (first
               | (go_at_call 28;refine Calls.mono (zu HN _) ?_;rintro e w1 ⟨rfl,hw⟩;obtain rfl:=hw.symm)
               | (go_at_call 29;refine Calls.mono (rletter_any _ _) ?_;rintro e w1 ⟨rfl,hw⟩;obtain rfl:=hw.symm))
              exact bodyPost_ret (v:=.agg #[.slice none 0 0,.int .i64 (k:Int),.int .i64 10]) (by simp[results,Tryz.results13,go_sem,z0,z1,z2,hz,Nat.ne_of_lt hz]) rfl ((zu HPQ).symm ▸ Or.inr (Or.inl ⟨hs,k,by rw[zu hB],rfl,(set3_ext ((zu X0).trans (zu hI).ext) _ (Nat.le_refl _) _ _ _).trans (Ext.alloc _ _)⟩))
            | false =>
             as_aux_lemma =>
              have HT:Hd (tokT s k=some (3,⟨#[]⟩,(q:Int),j)):=by show tokT s k=_;rw[(zu HT0).1];unfold numT;rw[← (zu HT0).2,zu hV,if_neg (by omega),zu hIj,hi105,if_neg (by decide),zu hNj,hnm,if_neg (by decide)]
              clear HT0 hV
              go_wp2_with (first
               | (go_at_call 28;refine Calls.mono (zu HN _) ?_;rintro e w1 ⟨rfl,hw⟩;obtain rfl:=hw.symm)
               | (go_at_call 29;refine Calls.mono (rletter_any _ _) ?_;rintro e w1 ⟨rfl,hw⟩;obtain rfl:=hw.symm)
               | (at_builtin;refine wpList_append_own _ rfl _ _ 61 rfl W0.heap.size 105 i0 (tokV 0 ⟨#[]⟩ 0 0) 4 40 Tryz.underlying61 (zu HI) (zu Z0) (zu Z1) (zu Z2) rfl (by decide) _ _ _ rfl (((zu hI).own.alloc _).alloc _) ⟨wr.heap.size+1,0,none⟩ 1 1 [.int .i64 3,.string ⟨#[]⟩,.int .i64 (q:Int),.int .i64 (k:Int)] rfl rfl (cells_new2 _ _ _ _) ?c2 ?c3 ?c4 ?c5 ?_))
              case c2=>intro u hu;simp at hu;rcases hu with rfl | rfl | rfl | rfl <;> rfl
              case c3=>have:=(zu hI).len;unfold maxLen;omega
              case c4=>have:=(zu hI).len;omega
              case c5=>have:=(zu hI).ext.le;simp;omega
              intro v' w2 hown' hgrow _;have R:=zh ((zu hI).next hlt (zu hsk) (zu HT) ((Ext.alloc _ _).trans (Ext.alloc _ _)) hown' hgrow);clear hown' hgrow
              go_wp2
              go_roundw
              case rel=>exact⟨_,_,_,by omega,by go_num,R⟩
              case measure=>simp[intOf];omega
           ·rw[if_neg hv] at HN
            replace HN:Hd (∀ W,Calls Tryz.prog 28 #[.string (s.extract k j)] W fun e w'=>e = .returned (.tuple #[.int .i64 (0:Nat),.bool false])∧w' = W):=zu HN
            as_aux_lemma =>
             have hB:=zh ((zu hI).bad hlt (zu hsk) (by rw[(zu HT0).1];unfold numT;rw[← (zu HT0).2,zu hV,if_pos (by omega)]));have f3:=(zu F0).on (zu hI).ext;have z0:=f3.c0;have z1:=f3.c1;have z2:=f3.c2;have zf:=f3.fz;clear f3;have hz:w.heap.size < wr.heap.size:=World.block_lt_of_cell? wr ⟨w.heap.size,0,none⟩ z0;clear HT0 hV
             go_wp2_with (first
              | (go_at_call 28;refine Calls.mono (zu HN _) ?_;rintro e w1 ⟨rfl,hw⟩;obtain rfl:=hw.symm)
              | (go_at_call 29;refine Calls.mono (rletter_any _ _) ?_;rintro e w1 ⟨rfl,hw⟩;obtain rfl:=hw.symm))
             exact bodyPost_ret (v:=.agg #[.slice none 0 0,.int .i64 (k:Int),.int .i64 10]) (by simp[results,Tryz.results13,go_sem,z0,z1,z2,hz,Nat.ne_of_lt hz]) rfl ((zu HPQ).symm ▸ Or.inr (Or.inl ⟨hs,k,by rw[zu hB],rfl,(set3_ext ((zu X0).trans (zu hI).ext) _ (Nat.le_refl _) _ _ _).trans (Ext.alloc _ _)⟩))
          | true =>
           by_cases hv:q≤9223372036854775807
           ·rw[if_pos hv] at HN
            replace HN:Hd (∀ W,Calls Tryz.prog 28 #[.string (s.extract k j)] W fun e w'=>e = .returned (.tuple #[.int .i64 (q:Nat),.bool true])∧w' = W):=zu HN;have hqi:(q:Int)≤9223372036854775807:=by omega
            by_cases h1:j+1 < s.size
            ·have hNk:=zh (nmAt_at s (j+1) h1)
             cases hnm:nm s[j+1] with
             | true =>
              as_aux_lemma =>
               have hB:=zh ((zu hI).bad hlt (zu hsk) (by rw[(zu HT0).1];unfold numT;rw[← (zu HT0).2,zu hV,if_neg (by omega),zu hIj,hi105,if_pos rfl,zu hNk,hnm,if_pos rfl]));have f3:=(zu F0).on (zu hI).ext;have z0:=f3.c0;have z1:=f3.c1;have z2:=f3.c2;have zf:=f3.fz;clear f3;have hz:w.heap.size < wr.heap.size:=World.block_lt_of_cell? wr ⟨w.heap.size,0,none⟩ z0;clear HT0 hV
               go_wp2_with (first
                | (go_at_call 28;refine Calls.mono (zu HN _) ?_;rintro e w1 ⟨rfl,hw⟩;obtain rfl:=hw.symm)
                | (go_at_call 29;refine Calls.mono (rletter_any _ _) ?_;rintro e w1 ⟨rfl,hw⟩;obtain rfl:=hw.symm))
               exact bodyPost_ret (v:=.agg #[.slice none 0 0,.int .i64 (k:Int),.int .i64 10]) (by simp[results,Tryz.results13,go_sem,z0,z1,z2,hz,Nat.ne_of_lt hz]) rfl ((zu HPQ).symm ▸ Or.inr (Or.inl ⟨hs,k,by rw[zu hB],rfl,(set3_ext ((zu X0).trans (zu hI).ext) _ (Nat.le_refl _) _ _ _).trans (Ext.alloc _ _)⟩))
             | false =>
              as_aux_lemma =>
               have HT:Hd (tokT s k=some (4,⟨#[]⟩,(q:Int),j+1)):=by show tokT s k=_;rw[(zu HT0).1];unfold numT;rw[← (zu HT0).2,zu hV,if_neg (by omega),zu hIj,hi105,if_pos rfl,zu hNk,hnm,if_neg (by decide)]
               clear HT0 hV
               go_wp2_with (first
                | (go_at_call 28;refine Calls.mono (zu HN _) ?_;rintro e w1 ⟨rfl,hw⟩;obtain rfl:=hw.symm)
                | (go_at_call 29;refine Calls.mono (rletter_any _ _) ?_;rintro e w1 ⟨rfl,hw⟩;obtain rfl:=hw.symm)
                | (at_builtin;refine wpList_append_own _ rfl _ _ 61 rfl W0.heap.size 105 i0 (tokV 0 ⟨#[]⟩ 0 0) 4 40 Tryz.underlying61 (zu HI) (zu Z0) (zu Z1) (zu Z2) rfl (by decide) _ _ _ rfl (((zu hI).own.alloc _).alloc _) ⟨wr.heap.size+1,0,none⟩ 1 1 [.int .i64 4,.string ⟨#[]⟩,.int .i64 (q:Int),.int .i64 (k:Int)] rfl rfl (cells_new2 _ _ _ _) ?c2 ?c3 ?c4 ?c5 ?_))
               case c2=>intro u hu;simp at hu;rcases hu with rfl | rfl | rfl | rfl <;> rfl
               case c3=>have:=(zu hI).len;unfold maxLen;omega
               case c4=>have:=(zu hI).len;omega
               case c5=>have:=(zu hI).ext.le;simp;omega
               intro v' w2 hown' hgrow _;have R:=zh ((zu hI).next hlt (zu hsk) (zu HT) ((Ext.alloc _ _).trans (Ext.alloc _ _)) hown' hgrow);clear hown' hgrow
               go_wp2
               go_roundw
               case rel=>exact⟨_,_,_,by omega,by go_num,R⟩
               case measure=>simp[intOf];omega
            ·have e1:decide ((j:Int)+1 < s.size)=false:=decide_eq_false (by omega)
             as_aux_lemma =>
              have HT:Hd (tokT s k=some (4,⟨#[]⟩,(q:Int),j+1)):=by show tokT s k=_;rw[(zu HT0).1];unfold numT;rw[← (zu HT0).2,zu hV,if_neg (by omega),zu hIj,hi105,if_pos rfl,nmAt_end s (j+1) (by omega),if_neg (by decide)]
              clear HT0 hV
              go_wp2_with (first
               | (go_at_call 28;refine Calls.mono (zu HN _) ?_;rintro e w1 ⟨rfl,hw⟩;obtain rfl:=hw.symm)
               | (go_at_call 29;refine Calls.mono (rletter_any _ _) ?_;rintro e w1 ⟨rfl,hw⟩;obtain rfl:=hw.symm)
               | (at_builtin;refine wpList_append_own _ rfl _ _ 61 rfl W0.heap.size 105 i0 (tokV 0 ⟨#[]⟩ 0 0) 4 40 Tryz.underlying61 (zu HI) (zu Z0) (zu Z1) (zu Z2) rfl (by decide) _ _ _ rfl (((zu hI).own.alloc _).alloc _) ⟨wr.heap.size+1,0,none⟩ 1 1 [.int .i64 4,.string ⟨#[]⟩,.int .i64 (q:Int),.int .i64 (k:Int)] rfl rfl (cells_new2 _ _ _ _) ?c2 ?c3 ?c4 ?c5 ?_))
              case c2=>intro u hu;simp at hu;rcases hu with rfl | rfl | rfl | rfl <;> rfl
              case c3=>have:=(zu hI).len;unfold maxLen;omega
              case c4=>have:=(zu hI).len;omega
              case c5=>have:=(zu hI).ext.le;simp;omega
              intro v' w2 hown' hgrow _;have R:=zh ((zu hI).next hlt (zu hsk) (zu HT) ((Ext.alloc _ _).trans (Ext.alloc _ _)) hown' hgrow);clear hown' hgrow
              go_wp2
              go_roundw
              case rel=>exact⟨_,_,_,by omega,by go_num,R⟩
              case measure=>simp[intOf];omega
           ·rw[if_neg hv] at HN
            replace HN:Hd (∀ W,Calls Tryz.prog 28 #[.string (s.extract k j)] W fun e w'=>e = .returned (.tuple #[.int .i64 (0:Nat),.bool false])∧w' = W):=zu HN
            as_aux_lemma =>
             have hB:=zh ((zu hI).bad hlt (zu hsk) (by rw[(zu HT0).1];unfold numT;rw[← (zu HT0).2,zu hV,if_pos (by omega)]));have f3:=(zu F0).on (zu hI).ext;have z0:=f3.c0;have z1:=f3.c1;have z2:=f3.c2;have zf:=f3.fz;clear f3;have hz:w.heap.size < wr.heap.size:=World.block_lt_of_cell? wr ⟨w.heap.size,0,none⟩ z0;clear HT0 hV
             go_wp2_with (first
              | (go_at_call 28;refine Calls.mono (zu HN _) ?_;rintro e w1 ⟨rfl,hw⟩;obtain rfl:=hw.symm)
              | (go_at_call 29;refine Calls.mono (rletter_any _ _) ?_;rintro e w1 ⟨rfl,hw⟩;obtain rfl:=hw.symm))
             exact bodyPost_ret (v:=.agg #[.slice none 0 0,.int .i64 (k:Int),.int .i64 10]) (by simp[results,Tryz.results13,go_sem,z0,z1,z2,hz,Nat.ne_of_lt hz]) rfl ((zu HPQ).symm ▸ Or.inr (Or.inl ⟨hs,k,by rw[zu hB],rfl,(set3_ext ((zu X0).trans (zu hI).ext) _ (Nat.le_refl _) _ _ _).trans (Ext.alloc _ _)⟩))
        ·have hE:Hd (j=k+run dg ((L s).drop k)):=by
          have:=zu hJ;rw[run_out dg s j (by omega)] at this;exact this
         clear hJ
         go_wp2
         subst hQ;have HT0:Hd (tokT s k=numT s k∧j=k+nd s k):=⟨tok_num hlt hd,zu hE⟩;have hx9:(s.extract k j).size≤4000:=by rw[ByteArray.size_extract];omega
         have hLx:L (s.extract k j)=((L s).drop k).take (nd s k):=by rw[L_extract,(zu HT0).2,Nat.add_sub_cancel_left]
         have HN:=zh (fun W=>rnumber_any (s.extract k j) W hx9 (by rw[hLx];exact run_take _));have hnR:numR (L (s.extract k j))=if nv s k≤9223372036854775807 then some (nv s k) else none:=by rw[hLx];exact rfl
         rw[hnR] at HN;have hkj1:k+1≤j:=by
          have:=zu hE;have h1:1≤run dg ((L s).drop k):=by rw[L_drop s k hlt];exact run_pos hd
          omega
         clear hnR hLx hx9 hE;obtain⟨q,hV⟩:∃ q,Hd (nv s k=q):=⟨_,rfl⟩;rw[zu hV] at HN;have hge:s.size≤j:=by omega
         have e1:decide ((j:Int) < s.size)=false:=decide_eq_false (by omega);by_cases hv:q≤9223372036854775807
         ·rw[if_pos hv] at HN
          replace HN:Hd (∀ W,Calls Tryz.prog 28 #[.string (s.extract k j)] W fun e w'=>e = .returned (.tuple #[.int .i64 (q:Nat),.bool true])∧w' = W):=zu HN;have hqi:(q:Int)≤9223372036854775807:=by omega
          as_aux_lemma =>
           have HT:Hd (tokT s k=some (3,⟨#[]⟩,(q:Int),j)):=by show tokT s k=_;rw[(zu HT0).1];unfold numT;rw[← (zu HT0).2,zu hV,if_neg (by omega),isI_end s j hge,if_neg (by decide),nmAt_end s j hge,if_neg (by decide)]
           clear HT0 hV
           go_wp2_with (first
            | (go_at_call 28;refine Calls.mono (zu HN _) ?_;rintro e w1 ⟨rfl,hw⟩;obtain rfl:=hw.symm)
            | (go_at_call 29;refine Calls.mono (rletter_any _ _) ?_;rintro e w1 ⟨rfl,hw⟩;obtain rfl:=hw.symm)
            | (at_builtin;refine wpList_append_own _ rfl _ _ 61 rfl W0.heap.size 105 i0 (tokV 0 ⟨#[]⟩ 0 0) 4 40 Tryz.underlying61 (zu HI) (zu Z0) (zu Z1) (zu Z2) rfl (by decide) _ _ _ rfl (((zu hI).own.alloc _).alloc _) ⟨wr.heap.size+1,0,none⟩ 1 1 [.int .i64 3,.string ⟨#[]⟩,.int .i64 (q:Int),.int .i64 (k:Int)] rfl rfl (cells_new2 _ _ _ _) ?c2 ?c3 ?c4 ?c5 ?_))
           case c2=>intro u hu;simp at hu;rcases hu with rfl | rfl | rfl | rfl <;> rfl
           case c3=>have:=(zu hI).len;unfold maxLen;omega
           case c4=>have:=(zu hI).len;omega
           case c5=>have:=(zu hI).ext.le;simp;omega
           intro v' w2 hown' hgrow _;have R:=zh ((zu hI).next hlt (zu hsk) (zu HT) ((Ext.alloc _ _).trans (Ext.alloc _ _)) hown' hgrow);clear hown' hgrow
           go_wp2
           go_roundw
           case rel=>exact⟨_,_,_,by omega,by go_num,R⟩
           case measure=>simp[intOf];omega
         ·rw[if_neg hv] at HN
          replace HN:Hd (∀ W,Calls Tryz.prog 28 #[.string (s.extract k j)] W fun e w'=>e = .returned (.tuple #[.int .i64 (0:Nat),.bool false])∧w' = W):=zu HN
          as_aux_lemma =>
           have hB:=zh ((zu hI).bad hlt (zu hsk) (by rw[(zu HT0).1];unfold numT;rw[← (zu HT0).2,zu hV,if_pos (by omega)]));have f3:=(zu F0).on (zu hI).ext;have z0:=f3.c0;have z1:=f3.c1;have z2:=f3.c2;have zf:=f3.fz;clear f3;have hz:w.heap.size < wr.heap.size:=World.block_lt_of_cell? wr ⟨w.heap.size,0,none⟩ z0;clear HT0 hV
           go_wp2_with (first
            | (go_at_call 28;refine Calls.mono (zu HN _) ?_;rintro e w1 ⟨rfl,hw⟩;obtain rfl:=hw.symm)
            | (go_at_call 29;refine Calls.mono (rletter_any _ _) ?_;rintro e w1 ⟨rfl,hw⟩;obtain rfl:=hw.symm))
           exact bodyPost_ret (v:=.agg #[.slice none 0 0,.int .i64 (k:Int),.int .i64 10]) (by simp[results,Tryz.results13,go_sem,z0,z1,z2,hz,Nat.ne_of_lt hz]) rfl ((zu HPQ).symm ▸ Or.inr (Or.inl ⟨hs,k,by rw[zu hB],rfl,(set3_ext ((zu X0).trans (zu hI).ext) _ (Nat.le_refl _) _ _ _).trans (Ext.alloc _ _)⟩))
     | false =>
      cases hn:nm s[k] with
      | true =>
       as_aux_lemma =>
        have HT0:Hd (∀ j,j=k+run nm ((L s).drop k)→(16 < j - k→tokT s k=none)∧(¬ 16 < j - k→tokT s k=some (if wordL (((L s).drop k).take (j - k)) then 2 else 1,s.extract k j,0,j))):=by
         intro j hj;have hjk:j - k=run nm ((L s).drop k):=by omega
         rw[hjk,tok_name hlt hd hn,nameT,← hj];exact⟨fun h=>if_pos h,fun h=>if_neg h⟩
        have hP1:Hd (1≤run nm ((L s).drop k)):=by rw[L_drop s k hlt];exact run_pos hn
        go_wp2_with (first
         | (go_at_call 27;refine Calls.mono (rdigit_any _ _) ?_;rintro e w1 ⟨rfl,hw⟩;obtain rfl:=hw.symm)
         | (go_at_call 29;refine Calls.mono (rletter_any _ _) ?_;rintro e w1 ⟨rfl,hw⟩;obtain rfl:=hw.symm))
        go_hide hQ
        go_loop [6] (fun x => ∃ j:Nat,k≤j∧j≤s.size∧x = .int .i64 j∧Hd (j+run nm ((L s).drop j)=k+run nm ((L s).drop k))) (fun x=>s.size - (intOf x).toNat)
        case atStart=>exact⟨k,Nat.le_refl _,hk,rfl,rfl⟩
        case round =>
         obtain⟨j,hkj,hj,rfl,hJ⟩:=hrel;by_cases hjl:j < s.size
         ·cases hp:nm s[j] with
          | true =>
           have hE:Hd (j+1+run nm ((L s).drop (j+1))=k+run nm ((L s).drop k)):=by
            have:=zu hJ;rw[run_step nm s j hjl hp] at this;exact this
           go_wp2_with (go_at_call 29;refine Calls.mono (rletter_any _ _) ?_;rintro e w1 ⟨rfl,hw⟩;obtain rfl:=hw.symm)
           go_round
           case rel=>exact⟨j+1,by omega,by omega,by go_num,hE⟩
           case measure=>simp[intOf];omega
          | false =>
           have hE:Hd (j=k+run nm ((L s).drop k)):=by
            have:=zu hJ;rw[run_stop nm s j hjl hp] at this;exact this
           clear hJ
           go_wp2_with (go_at_call 29;refine Calls.mono (rletter_any _ _) ?_;rintro e w1 ⟨rfl,hw⟩;obtain rfl:=hw.symm)
           subst hQ;have HT:=zh ((zu HT0) j (zu hE));have HWd:=zh (fun W=>risWord_any (s.extract k j) W);have hLx:Hd (L (s.extract k j)=((L s).drop k).take (j - k)):=L_extract s k j;by_cases h16:16 < j - k
           ·have hB:=zh ((zu hI).bad hlt (zu hsk) ((zu HT).1 h16))
            clear HWd HT HT0;have f3:=(zu F0).on (zu hI).ext;have z0:=f3.c0;have z1:=f3.c1;have z2:=f3.c2;have zf:=f3.fz;clear f3
            go_wp2
            exact bodyPost_ret (v:=.agg #[.slice none 0 0,.int .i64 (k:Int),.int .i64 10]) (by simp[results,Tryz.results13,go_sem,z0,z1,z2]) rfl ((zu HPQ).symm ▸ Or.inr (Or.inl ⟨hs,k,by rw[zu hB],rfl,set3_ext ((zu X0).trans (zu hI).ext) _ (Nat.le_refl _) _ _ _⟩))
           ·have HT2:=zh ((zu HT).2 h16)
            have hWL:Hd (wordL (L (s.extract k j))=wordL (((L s).drop k).take (j - k))):=by rw[zu hLx];exact rfl
            clear HT HT0 hLx;have hjk:k+1≤j:=by have:=zu hE;have:=zu hP1;omega
            cases hword:wordL (((L s).drop k).take (j - k)) with
            | true =>
             rw[hword] at HT2 hWL;rw[zu hWL] at HWd;have HT3:Hd (tokT s k=some (2,s.extract k j,0,j)):=zu HT2;clear HT2 hWL hword hE
             go_wp2_with (first
              | (go_at_call 30;refine Calls.mono (zu HWd _) ?_;rintro e w1 ⟨rfl,hw⟩;have X1:=zh hw;clear hw)
              | (at_builtin;refine wpList_append_own _ rfl _ _ 61 rfl W0.heap.size 105 i0 (tokV 0 ⟨#[]⟩ 0 0) 4 40 Tryz.underlying61 (zu HI) (zu Z0) (zu Z1) (zu Z2) rfl (by decide) _ _ _ rfl ((own_ext (zu hI).own (zu X1)).alloc _) ⟨w1.heap.size,0,none⟩ 1 1 [.int .i64 2,.string (s.extract k j),.int .i64 0,.int .i64 (k:Int)] rfl rfl (cells_new _ _ _) ?c2 ?c3 ?c4 ?c5 ?_))
             case c2=>intro u hu;simp at hu;rcases hu with rfl | rfl | rfl | rfl <;> rfl
             case c3=>have:=(zu hI).len;unfold maxLen;omega
             case c4=>have:=(zu hI).len;omega
             case c5=>have:=((zu hI).ext.trans (zu X1)).le;simp;omega
             intro v' w2 hown' hgrow _;have R:=zh ((zu hI).next hlt (zu hsk) (zu HT3) ((zu X1).trans (Ext.alloc _ _)) hown' hgrow);clear hown' hgrow
             go_wp2
             go_roundw
             case rel=>exact⟨_,_,_,by omega,by go_num,R⟩
             case measure=>simp[intOf];omega
            | false =>
             rw[hword] at HT2 hWL;rw[zu hWL] at HWd;have HT3:Hd (tokT s k=some (1,s.extract k j,0,j)):=zu HT2;clear HT2 hWL hword hE
             go_wp2_with (first
              | (go_at_call 30;refine Calls.mono (zu HWd _) ?_;rintro e w1 ⟨rfl,hw⟩;have X1:=zh hw;clear hw)
              | (at_builtin;refine wpList_append_own _ rfl _ _ 61 rfl W0.heap.size 105 i0 (tokV 0 ⟨#[]⟩ 0 0) 4 40 Tryz.underlying61 (zu HI) (zu Z0) (zu Z1) (zu Z2) rfl (by decide) _ _ _ rfl ((own_ext (zu hI).own (zu X1)).alloc _) ⟨w1.heap.size,0,none⟩ 1 1 [.int .i64 1,.string (s.extract k j),.int .i64 0,.int .i64 (k:Int)] rfl rfl (cells_new _ _ _) ?c2 ?c3 ?c4 ?c5 ?_))
             case c2=>intro u hu;simp at hu;rcases hu with rfl | rfl | rfl | rfl <;> rfl
             case c3=>have:=(zu hI).len;unfold maxLen;omega
             case c4=>have:=(zu hI).len;omega
             case c5=>have:=((zu hI).ext.trans (zu X1)).le;simp;omega
             intro v' w2 hown' hgrow _;have R:=zh ((zu hI).next hlt (zu hsk) (zu HT3) ((zu X1).trans (Ext.alloc _ _)) hown' hgrow);clear hown' hgrow
             go_wp2
             go_roundw
             case rel=>exact⟨_,_,_,by omega,by go_num,R⟩
             case measure=>simp[intOf];omega
         ·have hE:Hd (j=k+run nm ((L s).drop k)):=by
           have:=zu hJ;rw[run_out nm s j (by omega)] at this;exact this
          clear hJ
          go_wp2
          subst hQ;have HT:=zh ((zu HT0) j (zu hE));have HWd:=zh (fun W=>risWord_any (s.extract k j) W);have hLx:Hd (L (s.extract k j)=((L s).drop k).take (j - k)):=L_extract s k j;by_cases h16:16 < j - k
          ·have hB:=zh ((zu hI).bad hlt (zu hsk) ((zu HT).1 h16))
           clear HWd HT HT0;have f3:=(zu F0).on (zu hI).ext;have z0:=f3.c0;have z1:=f3.c1;have z2:=f3.c2;have zf:=f3.fz;clear f3
           go_wp2
           exact bodyPost_ret (v:=.agg #[.slice none 0 0,.int .i64 (k:Int),.int .i64 10]) (by simp[results,Tryz.results13,go_sem,z0,z1,z2]) rfl ((zu HPQ).symm ▸ Or.inr (Or.inl ⟨hs,k,by rw[zu hB],rfl,set3_ext ((zu X0).trans (zu hI).ext) _ (Nat.le_refl _) _ _ _⟩))
          ·have HT2:=zh ((zu HT).2 h16)
           have hWL:Hd (wordL (L (s.extract k j))=wordL (((L s).drop k).take (j - k))):=by rw[zu hLx];exact rfl
           clear HT HT0 hLx;have hjk:k+1≤j:=by have:=zu hE;have:=zu hP1;omega
           cases hword:wordL (((L s).drop k).take (j - k)) with
           | true =>
            rw[hword] at HT2 hWL;rw[zu hWL] at HWd;have HT3:Hd (tokT s k=some (2,s.extract k j,0,j)):=zu HT2;clear HT2 hWL hword hE
            go_wp2_with (first
             | (go_at_call 30;refine Calls.mono (zu HWd _) ?_;rintro e w1 ⟨rfl,hw⟩;have X1:=zh hw;clear hw)
             | (at_builtin;refine wpList_append_own _ rfl _ _ 61 rfl W0.heap.size 105 i0 (tokV 0 ⟨#[]⟩ 0 0) 4 40 Tryz.underlying61 (zu HI) (zu Z0) (zu Z1) (zu Z2) rfl (by decide) _ _ _ rfl ((own_ext (zu hI).own (zu X1)).alloc _) ⟨w1.heap.size,0,none⟩ 1 1 [.int .i64 2,.string (s.extract k j),.int .i64 0,.int .i64 (k:Int)] rfl rfl (cells_new _ _ _) ?c2 ?c3 ?c4 ?c5 ?_))
            case c2=>intro u hu;simp at hu;rcases hu with rfl | rfl | rfl | rfl <;> rfl
            case c3=>have:=(zu hI).len;unfold maxLen;omega
            case c4=>have:=(zu hI).len;omega
            case c5=>have:=((zu hI).ext.trans (zu X1)).le;simp;omega
            intro v' w2 hown' hgrow _;have R:=zh ((zu hI).next hlt (zu hsk) (zu HT3) ((zu X1).trans (Ext.alloc _ _)) hown' hgrow);clear hown' hgrow
            go_wp2
            go_roundw
            case rel=>exact⟨_,_,_,by omega,by go_num,R⟩
            case measure=>simp[intOf];omega
           | false =>
            rw[hword] at HT2 hWL;rw[zu hWL] at HWd;have HT3:Hd (tokT s k=some (1,s.extract k j,0,j)):=zu HT2;clear HT2 hWL hword hE
            go_wp2_with (first
             | (go_at_call 30;refine Calls.mono (zu HWd _) ?_;rintro e w1 ⟨rfl,hw⟩;have X1:=zh hw;clear hw)
             | (at_builtin;refine wpList_append_own _ rfl _ _ 61 rfl W0.heap.size 105 i0 (tokV 0 ⟨#[]⟩ 0 0) 4 40 Tryz.underlying61 (zu HI) (zu Z0) (zu Z1) (zu Z2) rfl (by decide) _ _ _ rfl ((own_ext (zu hI).own (zu X1)).alloc _) ⟨w1.heap.size,0,none⟩ 1 1 [.int .i64 1,.string (s.extract k j),.int .i64 0,.int .i64 (k:Int)] rfl rfl (cells_new _ _ _) ?c2 ?c3 ?c4 ?c5 ?_))
            case c2=>intro u hu;simp at hu;rcases hu with rfl | rfl | rfl | rfl <;> rfl
            case c3=>have:=(zu hI).len;unfold maxLen;omega
            case c4=>have:=(zu hI).len;omega
            case c5=>have:=((zu hI).ext.trans (zu X1)).le;simp;omega
            intro v' w2 hown' hgrow _;have R:=zh ((zu hI).next hlt (zu hsk) (zu HT3) ((zu X1).trans (Ext.alloc _ _)) hown' hgrow);clear hown' hgrow
            go_wp2
            go_roundw
            case rel=>exact⟨_,_,_,by omega,by go_num,R⟩
            case measure=>simp[intOf];omega
      | false =>
       by_cases hq:s[k].toNat=34
       ·as_aux_lemma =>
         have b6:((s[k].toNat:Int) == 34)=true:=by simp;omega
         have hT:=tok_text hlt hd hn hq;clear hq;have HO:=zh (fun W=>rtext_any s k W hlt hs);unfold textT at hT;cases hx:txF (s.size+1) ((L s).drop (k+1)) with
         | none =>
          rw[hx] at hT;have hB:=zh ((zu hI).bad hlt (zu hsk) hT);rw[rtx_none hx] at HO;clear hT hx;have f3:=(zu F0).on (zu hI).ext;have z0:=f3.c0;have z1:=f3.c1;have z2:=f3.c2;have zf:=f3.fz;clear f3
          go_wp2_with (first
           | (go_at_call 27;refine Calls.mono (rdigit_any _ _) ?_;rintro e w1 ⟨rfl,hw⟩;obtain rfl:=hw.symm)
           | (go_at_call 29;refine Calls.mono (rletter_any _ _) ?_;rintro e w1 ⟨rfl,hw⟩;obtain rfl:=hw.symm)
           | (go_at_call 31;refine Calls.mono (zu HO _) ?_;rintro e w1 ⟨rfl,hw⟩;obtain rfl:=hw.symm))
          exact bodyPost_ret (v:=.agg #[.slice none 0 0,.int .i64 (k:Int),.int .i64 10]) (by simp[results,Tryz.results13,go_sem,z0,z1,z2]) rfl ((zu HPQ).symm ▸ Or.inr (Or.inl ⟨hs,k,by rw[zu hB],rfl,set3_ext ((zu X0).trans (zu hI).ext) _ (Nat.le_refl _) _ _ _⟩))
         | some p =>
          obtain⟨l,m⟩:=p;have hp:=txF_pos _ _ _ hx;rw[List.length_drop,L_len] at hp;have hr:rtx s k = .tuple #[.string ⟨l.toArray⟩,.int .i64 ((k+1+m:Nat):Int),.bool true]:=by unfold rtx;rw[hx]
          rw[hr] at HO;rw[hx] at hT;have HT:Hd (tokT s k=some (5,⟨l.toArray⟩,0,k+1+m)):=hT;clear hT hx hr;have hp1:1≤m:=hp.1;have hp2:m≤s.size - (k+1):=hp.2;clear hp;generalize (⟨l.toArray⟩:ByteArray)=u at HO HT
          go_wp2_with (first
           | (go_at_call 27;refine Calls.mono (rdigit_any _ _) ?_;rintro e w1 ⟨rfl,hw⟩;obtain rfl:=hw.symm)
           | (go_at_call 29;refine Calls.mono (rletter_any _ _) ?_;rintro e w1 ⟨rfl,hw⟩;obtain rfl:=hw.symm)
           | (go_at_call 31;refine Calls.mono (zu HO _) ?_;rintro e w1 ⟨rfl,hw⟩;obtain rfl:=hw.symm)
           | (at_builtin;refine wpList_append_own _ rfl _ _ 61 rfl W0.heap.size 105 i0 (tokV 0 ⟨#[]⟩ 0 0) 4 40 Tryz.underlying61 (zu HI) (zu Z0) (zu Z1) (zu Z2) rfl (by decide) _ _ _ rfl ((zu hI).own.alloc _) ⟨wr.heap.size,0,none⟩ 1 1 [.int .i64 5,.string u,.int .i64 0,.int .i64 (k:Int)] rfl rfl (cells_new _ _ _) ?c2 ?c3 ?c4 ?c5 ?_))
          case c2=>intro u hu;simp at hu;rcases hu with rfl | rfl | rfl | rfl <;> rfl
          case c3=>have:=(zu hI).len;unfold maxLen;omega
          case c4=>have:=(zu hI).len;omega
          case c5=>have:=(zu hI).ext.le;simp;omega
          intro v' w2 hown' hgrow _;have R:=zh ((zu hI).next hlt (zu hsk) (zu HT) (Ext.alloc _ _) hown' hgrow);clear hown' hgrow
          go_wp2
          go_roundw
          case rel=>exact⟨_,_,_,by omega,by go_num,R⟩
          case measure=>simp[intOf];omega
       ·as_aux_lemma =>
         have b6:((s[k].toNat:Int) == 34)=false:=by simp;omega
         have hT:=tok_op hlt hd hn hq;clear hq;have HO:=zh (fun W=>rop_any (s.extract k s.size) W (by rw[tail_size];omega) (by rw[tail_size];omega));have hoS:opS (s.extract k s.size)=s.extract k (k+opL ((L s).drop k)):=by
          apply L_inj;unfold opS;rw[L_extract,tail_L,L_extract,List.drop_zero,Nat.sub_zero,Nat.add_sub_cancel_left]
         rw[hoS] at HO;have hle:opL ((L s).drop k)≤s.size - k:=by
          have:=opL_le ((L s).drop k);rw[List.length_drop,L_len] at this;exact this
         unfold opT at hT;by_cases h0:opL ((L s).drop k)=0
         ·rw[if_pos h0] at hT
          have hB:=zh ((zu hI).bad hlt (zu hsk) hT);have e0:((s.extract k (k+opL ((L s).drop k))).toList == [])=true:=toL_emp _ (by rw[ByteArray.size_extract,h0];omega);clear hT h0 hoS;have f3:=(zu F0).on (zu hI).ext;have z0:=f3.c0;have z1:=f3.c1;have z2:=f3.c2;have zf:=f3.fz;clear f3;generalize s.extract k (k+opL ((L s).drop k))=u at HO e0;clear hle
          go_wp2_with (first
           | (go_at_call 27;refine Calls.mono (rdigit_any _ _) ?_;rintro e w1 ⟨rfl,hw⟩;obtain rfl:=hw.symm)
           | (go_at_call 29;refine Calls.mono (rletter_any _ _) ?_;rintro e w1 ⟨rfl,hw⟩;obtain rfl:=hw.symm)
           | (go_at_call 32;refine Calls.mono (zu HO _) ?_;rintro e w1 ⟨rfl,hw⟩;obtain rfl:=hw.symm))
          exact bodyPost_ret (v:=.agg #[.slice none 0 0,.int .i64 (k:Int),.int .i64 10]) (by simp[results,Tryz.results13,go_sem,z0,z1,z2]) rfl ((zu HPQ).symm ▸ Or.inr (Or.inl ⟨hs,k,by rw[zu hB],rfl,set3_ext ((zu X0).trans (zu hI).ext) _ (Nat.le_refl _) _ _ _⟩))
         ·rw[if_neg h0] at hT
          have HT:=zh hT;have hus:(s.extract k (k+opL ((L s).drop k))).size=opL ((L s).drop k):=by rw[ByteArray.size_extract];omega
          have e0:((s.extract k (k+opL ((L s).drop k))).toList == [])=false:=toL_nil _ (by rw[hus];exact h0);clear hT hoS;obtain⟨u,hu⟩:∃ u,u=s.extract k (k+opL ((L s).drop k)):=⟨_,rfl⟩;rw[← hu] at HO e0 HT hus;clear hu;generalize opL ((L s).drop k)=j at hle HT hus h0;have hus':=zh hus;have hub:u.size≤4000:=by omega
          have hub2:k+u.size≤s.size:=by omega
          rw[← hus] at HT;clear hus
          go_wp2_with (first
           | (go_at_call 27;refine Calls.mono (rdigit_any _ _) ?_;rintro e w1 ⟨rfl,hw⟩;obtain rfl:=hw.symm)
           | (go_at_call 29;refine Calls.mono (rletter_any _ _) ?_;rintro e w1 ⟨rfl,hw⟩;obtain rfl:=hw.symm)
           | (go_at_call 32;refine Calls.mono (zu HO _) ?_;rintro e w1 ⟨rfl,hw⟩;obtain rfl:=hw.symm)
           | (at_builtin;refine wpList_append_own _ rfl _ _ 61 rfl W0.heap.size 105 i0 (tokV 0 ⟨#[]⟩ 0 0) 4 40 Tryz.underlying61 (zu HI) (zu Z0) (zu Z1) (zu Z2) rfl (by decide) _ _ _ rfl ((zu hI).own.alloc _) ⟨wr.heap.size,0,none⟩ 1 1 [.int .i64 6,.string u,.int .i64 0,.int .i64 (k:Int)] rfl rfl (cells_new _ _ _) ?c2 ?c3 ?c4 ?c5 ?_))
          case c2=>intro u hu;simp at hu;rcases hu with rfl | rfl | rfl | rfl <;> rfl
          case c3=>have:=(zu hI).len;unfold maxLen;omega
          case c4=>have:=(zu hI).len;omega
          case c5=>have:=(zu hI).ext.le;simp;omega
          intro v' w2 hown' hgrow _;have R:=zh ((zu hI).next hlt (zu hsk) (zu HT) (Ext.alloc _ _) hown' hgrow);clear hown' hgrow
          go_wp2
          go_roundw
          case rel=>exact⟨_,_,_,by omega,by go_num,R⟩
          case measure=>have:=zu hus';simp[intOf];omega
  ·as_aux_lemma =>
    have hD:=zh ((zu hI).done (by omega));obtain⟨a,n,c,hv⟩:=own_shape (zu hI).own;subst hv;have f3:=(zu F0).on (zu hI).ext;have z0:=f3.c0;have z1:=f3.c1;have z2:=f3.c2;have zf:=f3.fz;clear f3
    go_wp2
    have D:=zu hD;refine bodyPost_ret (v:=.agg #[.slice a n c,.int .i64 0,.int .i64 0]) (by simp[results,Tryz.results13,go_sem,z0,z1,z2]) rfl ?_;rw[zu HPQ];refine Or.inr (Or.inr ⟨hs,by rw[D],_,W0.heap.size,rfl,(zu X0).le,?_,set3_ext ((zu X0).trans (zu hI).ext) _ (Nat.le_refl _) _ _ _⟩);rw[D];have hlt0:w.heap.size < W0.heap.size:=World.block_lt_of_cell? W0 ⟨w.heap.size,0,none⟩ (zu F0).c0;exact own_set (own_set (own_set (zu hI).own hlt0 _ _) hlt0 _ _) hlt0 _ _
theorem rtokens_any (s:ByteArray) (w:World) (hmax:s.size≤9223372036854775807):Calls Tryz.prog 13 #[.string s] w (RToks s w):=by
 by_cases hs:4000 < s.size
 ·exact rtokens_long s w hs hmax
 ·exact rtokens_short s w (by omega)
end
end Go.Proofs.YtjnpehohialmbaaGreat
