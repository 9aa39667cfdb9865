/- What a copy of a value is,a text and a list as values: each in memory of its own. -/
import Derived.Test.YtjnpehohialmbaaGreatShelf
import Derived.Deep.OwnRows
import Derived.Test.YtjnpehohialmbaaGreatZs32
set_option linter.unusedSimpArgs false
set_option maxRecDepth 10000
set_option linter.unusedVariables false
set_option maxHeartbeats 1000000
namespace Go.Proofs.YtjnpehohialmbaaGreat
open Go.RowKit
namespace V
theorem infoV:(Tryz.prog.info? 32).map (fun i=>(i.zero,i.size,i.bytes))=some (some nilV,5,72):=by kernel_rfl
theorem clone_any (s:ByteArray) (w:World) (hs:s.size≤140737488355328) :
  Calls Tryz.prog 116 #[.string s] w fun e w'=>e = .returned (.string s)∧Ext w w':=by
 have hc:=fun w=>Tryz.stringslite_Clone s w (by omega);have C:=zh hc;clear hc
 go_enter Tryz.func116,Tryz.ntmps116
 go_wp2_with (go_at_call 145;refine Calls.mono (zu C _) ?_;rintro e w' ⟨rfl,hw⟩)
 go_ret;exact⟨rfl,hw⟩
mutual
/-- What a copy keeps of a value: what its kind uses. -/
def norm:PV→PV
 | .mk k n re im s l=>if k=1 then .mk 1 n 0 0 ⟨#[]⟩ [] else if k=2 then .mk 2 0 re im ⟨#[]⟩ [] else if k=3 then .mk 3 0 0 0 s [] else if k=4 then .mk 4 0 0 0 ⟨#[]⟩ (normL l) else nilP
def normL:List PV→List PV
 | [] => []
 | x :: xs=>norm x :: normL xs
end
theorem normL_map:∀ l,normL l=l.map norm
 | []=>rfl
 | x :: xs=>by rw[normL,normL_map xs];rfl
def Fresh (w w':World):Nat→Prop:=fun b=>w.heap.size≤b∧b < w'.heap.size
theorem zr {w:World} {g:Nat} {cs:Array Value} {t:TypeId} (h:w.heap[g]? = some (.cells cs t (0,0))) (i:Nat) {v:Value} (hi:cs[i]? = some v):w.cell? ⟨g,i,none⟩=some v:=by
 rw[cell_of_row w g i cs t (0,0) h];exact hi
theorem rowF {w:World} {g:Nat} {cs:Array Value} {t:TypeId} (h:w.heap[g]? = some (.cells cs t (0,0))) (i:Nat):w.frozen? ⟨g,i,none⟩=false:=by
 simp[World.frozen?,h]
theorem Ext.row {w w':World} (h:Ext w w') {g:Nat} {o:Obj} (hg:w.heap[g]? = some o):w'.heap[g]? = some o:=by
 rw[h.block g (Array.getElem?_eq_some_iff.1 hg).1];exact hg
theorem row_set {w:World} {g:Nat} {cs:Array Value} {t:TypeId} (h:w.heap[g]? = some (.cells cs t (0,0))) (i:Nat) (v:Value):(w.setCell ⟨g,i,none⟩ v).heap[g]? = some (.cells (cs.setIfInBounds i v) t (0,0)):=by
 simp[World.setCell,Array.getElem?_modify,h]
theorem grown_row {w w':World} {r:Option Nat} (h:w.grownBy w' r) {g:Nat} {o:Obj} (hg:w.heap[g]? = some o) (hne:some g≠r):w'.heap[g]? = some o:=by
 rw[h.block g (Array.getElem?_eq_some_iff.1 hg).1 hne];exact hg
structure Mid (w wr:World) (ps:List PV) (ao:Option Addr) (cap:Nat):Prop where
 ext:Ext w wr
 r1:wr.heap[w.heap.size+1]? = some (.cells #[.int .i64 0,.int .i64 0,.complex .f64 0 0,.string ⟨#[]⟩,.slice none 0 0] 32 (0,0))
 r2:wr.heap[w.heap.size+2]? = some (.cells #[.int .i64 4,.int .i64 0,.complex .f64 0 0,.string ⟨#[]⟩,.slice ao ps.length cap] 32 (0,0))
 own:∃ xs,wr.ownsRow (w.heap.size+3) 32 5 (.slice ao ps.length cap) ps.length xs∧Row5 wr (fun b=>w.heap.size+3≤b∧b < wr.heap.size∧some b≠(Value.slice ao ps.length cap).ownBlock) ps xs
theorem Mid.start (w:World) (cs:Array Value):Mid w (((w.alloc (.cells cs 32)).alloc (.cells #[.int .i64 0,.int .i64 0,.complex .f64 0 0,.string ⟨#[]⟩,.slice none 0 0] 32)).alloc (.cells #[.int .i64 4,.int .i64 0,.complex .f64 0 0,.string ⟨#[]⟩,.slice none 0 0] 32)) [] none 0:=by
 refine⟨((Ext.alloc _ _).trans (Ext.alloc _ _)).trans (Ext.alloc _ _),?_,?_,[],World.ownsRow_nil _ _ _ _,rfl⟩
 ·have:=(Ext.alloc ((w.alloc (.cells cs 32)).alloc (.cells #[.int .i64 0,.int .i64 0,.complex .f64 0 0,.string ⟨#[]⟩,.slice none 0 0] 32)) (.cells #[.int .i64 4,.int .i64 0,.complex .f64 0 0,.string ⟨#[]⟩,.slice none 0 0] 32)).row (Go.heap_alloc_new (w.alloc (.cells cs 32)) (.cells #[.int .i64 0,.int .i64 0,.complex .f64 0 0,.string ⟨#[]⟩,.slice none 0 0] 32))
  simpa only [heap_alloc_size] using this
 ·have:=Go.heap_alloc_new ((w.alloc (.cells cs 32)).alloc (.cells #[.int .i64 0,.int .i64 0,.complex .f64 0 0,.string ⟨#[]⟩,.slice none 0 0] 32)) (.cells #[.int .i64 4,.int .i64 0,.complex .f64 0 0,.string ⟨#[]⟩,.slice none 0 0] 32)
  rw[heap_alloc_size,heap_alloc_size] at this;exact this
theorem Mid.on {w wr w2:World} {ps:List PV} {ao:Option Addr} {cap:Nat} (h:Mid w wr ps ao cap) (he:Ext wr w2):Mid w w2 ps ao cap:=by
 obtain⟨xs,ho,hr⟩:=h.own;have hb:∀ b,b < wr.heap.size→w2.heap[b]? = wr.heap[b]?:=he.block;refine⟨h.ext.trans he,he.row h.r1,he.row h.r2,xs,⟨ho.1,?_⟩,Row5.to (fun b hb=>⟨⟨hb.1,Nat.lt_of_lt_of_le hb.2.1 he.le,hb.2.2⟩,he.block b hb.2.1⟩) hr⟩;rcases ho.2 with h0 | ⟨g,c2,cur,e,hbase,hg,rest⟩
 ·exact Or.inl h0
 ·exact Or.inr ⟨g,c2,cur,e,hbase,he.row hg,rest⟩
theorem Mid.snoc {w w2 w3:World} {ps:List PV} {ao:Option Addr} {cap g' cap':Nat} {p:PV} {a:Option Addr} {c:Nat} {xs:List Value}
  (h:Mid w w2 ps ao cap) (ho:w3.ownsRow (w.heap.size+3) 32 5 (.slice (some ⟨g',0,none⟩) (ps.length+1) cap') (ps.length+1) (xs++[.int .i64 p.k,.int .i64 p.n,.complex .f64 p.re p.im,.string p.s,.slice a p.l.length c]))
  (hx:Row5 w2 (fun b=>w.heap.size+3≤b∧b < w2.heap.size∧some b≠(Value.slice ao ps.length cap).ownBlock) ps xs)
  (hb:Bd p.k p.n p.re p.im p.s p.l.length c) (hp:RepL w2 (fun b=>w.heap.size+3≤b∧b < w2.heap.size∧some b≠(Value.slice ao ps.length cap).ownBlock) p.l a)
  (hg:w2.grownBy w3 (Value.slice ao ps.length cap).ownBlock) (hw:(Value.slice ao ps.length cap).ownBlock=some g'∨w2.heap.size≤g') :
  Mid w (w3.setCell ⟨w.heap.size+2,4,none⟩ (.slice (some ⟨g',0,none⟩) (ps.length+1) cap')) (ps++[p]) (some ⟨g',0,none⟩) cap':=by
 have hlt:=h.ext.le;have h2:w.heap.size+2 < w2.heap.size:=(Array.getElem?_eq_some_iff.1 h.r2).1;have hob:∀ g,(Value.slice ao ps.length cap).ownBlock=some g→w.heap.size+3≤g:=by
  obtain⟨ys,hy,_⟩:=h.own;intro g e;exact(hy.lt g e).1
 have hg3:w.heap.size+3≤g':=by
  rcases hw with e | e
  ·exact hob _ e
  ·omega
 have hne:∀ g,g < w.heap.size+3→some g≠(Value.slice ao ps.length cap).ownBlock:=by
  intro g hl e;have:=hob g e.symm;omega
 have hset:∀ b,b≠w.heap.size+2→(w3.setCell ⟨w.heap.size+2,4,none⟩ (.slice (some ⟨g',0,none⟩) (ps.length+1) cap')).heap[b]? = w3.heap[b]?:=fun b hb=>Below.heap_setCell _ _ _ _ hb;have hsize:(w3.setCell ⟨w.heap.size+2,4,none⟩ (.slice (some ⟨g',0,none⟩) (ps.length+1) cap')).heap.size=w3.heap.size:=by simp[World.setCell]
 have hF:∀ b,(w.heap.size+3≤b∧b < w2.heap.size∧some b≠(Value.slice ao ps.length cap).ownBlock) →
   (w.heap.size+3≤b∧b < (w3.setCell ⟨w.heap.size+2,4,none⟩ (.slice (some ⟨g',0,none⟩) (ps.length+1) cap')).heap.size∧some b≠(Value.slice (some ⟨g',0,none⟩) (ps++[p]).length cap').ownBlock) ∧
   (w3.setCell ⟨w.heap.size+2,4,none⟩ (.slice (some ⟨g',0,none⟩) (ps.length+1) cap')).heap[b]? = w2.heap[b]?:=by
  intro b hb;refine⟨⟨hb.1,by rw[hsize];exact Nat.lt_of_lt_of_le hb.2.1 hg.size,?_⟩,?_⟩
  ·intro e
   simp only[Value.ownBlock,Option.some.injEq] at e;rcases hw with e2 | e2
   ·exact hb.2.2 (by rw[e2,e])
   ·omega
  ·rw[hset b (by omega)]
   exact hg.block b hb.2.1 hb.2.2
 have hlen:(ps++[p]).length=ps.length+1:=by simp
 refine⟨?_,?_,?_,_,?_,Row5.snoc hb (RepL.to hF _ _ hp) (Row5.to hF hx)⟩
 ·have hE:Ext w w3:=Below.grown h.ext hg hlt (fun k e=>by have:=hob k e;omega)
  exact hE.set (by simp) _
 ·rw[hset _ (by omega)]
  exact grown_row hg h.r1 (hne _ (by omega))
 ·rw[row_set (grown_row hg h.r2 (hne _ (by omega))),hlen]
  rfl
 ·rw[hlen]
  refine⟨ho.1,?_⟩;rcases ho.2 with⟨e,_⟩ | ⟨g,c2,cur,e,hbase,hgg,rest⟩
  ·cases e
  ·refine Or.inr ⟨g,c2,cur,e,hbase,?_,rest⟩
   injection e with e1 _ _;injection e1 with e1;injection e1 with e1;subst e1;rw[hset _ (by omega)];exact hgg
theorem own_ext {w w':World} {base:Nat} {e:TypeId} {size:Nat} {v:Value} {n:Nat} {xs:List Value} (h:w.ownsRow base e size v n xs) (he:Ext w w'):w'.ownsRow base e size v n xs:=by
 refine⟨h.1,?_⟩;rcases h.2 with h0 | ⟨g,c2,cur,e1,hbase,hg,rest⟩
 ·exact Or.inl h0
 ·exact Or.inr ⟨g,c2,cur,e1,hbase,he.row hg,rest⟩
theorem add0 (g j:Nat):(⟨g,0,none⟩:Addr).add j=⟨g,j,none⟩:=by unfold Addr.add;split <;> simp_all
theorem cells_new (w:World) (cs:Array Value) (t:TypeId):∀ j u,cs.toList[j]? = some u→(w.alloc (.cells cs t)).cell? ((⟨w.heap.size,0,none⟩:Addr).add j)=some u:=by
 intro j u hu;rw[add0];exact cell_box w cs t j (by simpa using hu)
theorem enterCopied (v:Value) (w:World):(callFunc 95 #[v]).run Tryz.prog w = .ok (.enter 95 #[v]) w:=by kernel_rfl
theorem Mid.done {w wr:World} {ps:List PV} {ao:Option Addr} {c:Nat} (h:Mid w wr ps ao c):RepL wr (fun b=>w.heap.size+3≤b∧b < wr.heap.size) ps ao∧ps.length≤c:=by
 obtain⟨xs,ho,hr⟩:=h.own;rcases ho.2 with⟨e,h0⟩ | ⟨g,c2,cur,e,hbase,hg,hle,_⟩
 ·have:ps = []:=List.eq_nil_of_length_eq_zero h0
  subst this;exact⟨by simp[RepL],by simp⟩
 ·injection e with e1 e2 e3
  subst e1 e3;refine⟨Row5.repL (g:=g) ⟨hbase,(Array.getElem?_eq_some_iff.1 hg).1⟩ (Row5.to (fun b hb=>⟨⟨hb.1,hb.2.1⟩,rfl⟩) hr) (cells_own ho),hle⟩
theorem copied_four (n:Int) (re im:Nat) (s:ByteArray) (l:List PV)
  (ih:∀ x ∈ l,∀ (v:Value) (w:World),Rep w (In w) x v→Calls Tryz.prog 95 #[v] w fun e w' => ∃ v',e = .returned v'∧Rep w' (Fresh w w') (norm x) v'∧Ext w w')
  (v:Value) (w:World) (hr:Rep w (In w) (.mk 4 n re im s l) v) :
  Calls Tryz.prog 95 #[v] w fun e w' => ∃ v',e = .returned v'∧Rep w' (Fresh w w') (norm (.mk 4 n re im s l)) v'∧Ext w w':=by
 rw[Rep] at hr;obtain⟨a,cap,rfl,hb,hl⟩:=hr;have h72:=hb.b72;have h1:=hb.bl;have h2:=hb.bc;have H:=zh hl;have I:=zh ih;clear hl ih hb
 go_enter Tryz.func95,Tryz.ntmps95
 go_wp2_with fail
 go_loopw [30] (fun i wr => ∃ (j:Nat) (ao:Option Addr) (c:Nat),i = .int .i64 j∧j≤l.length∧Hd (Mid w wr ((l.take j).map norm) ao c)) (fun i _=>l.length - (intOf i).toNat)
 case atStart=>exact⟨0,none,0,rfl,by omega,Mid.start w _⟩
 case round =>
  obtain⟨j,ao,c,rfl,hj,hM⟩:=hrel;by_cases hlt:j < l.length
  ·obtain⟨x,hx⟩:∃ x,l[j]? = some x:=⟨l[j],List.getElem?_eq_getElem hlt⟩
   have hM':=zu hM;obtain⟨b,off,a',cap',rfl,hEl⟩:=RepL.get (RepL.ext (zu H) hM'.ext) j x hx;have h0:=hEl.c0;have h1:=hEl.c1;have h2:=hEl.c2;have h3:=hEl.c3;have h4:=hEl.c4;have hpl:((l.take j).map norm).length=j:=by simp;omega
   obtain⟨xs,ho,hrow⟩:=hM'.own;rw[hpl] at ho;have O:=zh ho;have ROW:=zh hrow;have NE:Hd (some (w.heap.size+2)≠(Value.slice ao j c).ownBlock):=fun e=>by have:=ho.lt _ e.symm;omega
   obtain⟨q,hq⟩:∃ q,q=norm x:=⟨_,rfl⟩;have hc:=zu I x (List.mem_of_getElem? hx) _ (wr.alloc (.cells #[.int .i64 x.k,.int .i64 x.n,.complex .f64 x.re x.im,.string x.s,.slice a' x.l.length cap'] 32)).drew (hEl.rep.ext (Ext.drew (Ext.alloc _ _)));rw[← hq] at hc;have C:=zh hc;have hr2:=hM'.r2;rw[hpl] at hr2;have hy4:=zr hr2 4 rfl;have hlt2:w.heap.size+2 < wr.heap.size:=(Array.getElem?_eq_some_iff.1 hr2).1;have hE1:Ext wr (wr.alloc (.cells #[.int .i64 x.k,.int .i64 x.n,.complex .f64 x.re x.im,.string x.s,.slice a' x.l.length cap'] 32)).drew:=Ext.drew (Ext.alloc _ _);have HE:=zh hE1;have R2:=zh hr2;have Q:=zh hq;have X:=zh hx;obtain⟨i0,hi,hz0,hz1,hz2⟩:=info_parts infoV;have HI:=zh hi;have Z0:=zh hz0;have Z1:=zh hz1;have Z2:=zh hz2;clear hEl hc ho hrow hM' hr2 hE1 hq hx hpl hi hz0 hz1 hz2;cases q with
   | mk k' n' re' im' s' l' =>
   go_wp2_with fail
   go_region_law (first
    | (refine step_call_one rfl 95 (.tmp 36) 32 rfl _ (by simp[Act.eval,Act.put]) (enterCopied _ _) (Calls.mono (zu C) ?_);rintro e w2 ⟨v2,rfl,hr2,hw2⟩;rw[Rep] at hr2;obtain⟨a2,c2,rfl,hb2,hl2⟩:=hr2;have hE2:=zh ((zu HE).trans hw2);have hrow2:=(zu hE2).row (zu R2);have hy5:=zr hrow2 4 rfl;have hlt3:w.heap.size+2 < w2.heap.size:=(Array.getElem?_eq_some_iff.1 hrow2).1;have B2:=zh hb2;have L2:=zh hl2;have RW2:=zh hrow2;have W2:=zh hw2;clear hb2 hl2 hrow2 hw2;refine⟨_,rfl,?_⟩)
    | (refine step_append_where rfl (.tmp 35) (.tmp 38) 30 rfl (w.heap.size+3) 32 i0 nilV 5 72 Tryz.underlying30 (zu HI) (zu Z0) (zu Z1) (zu Z2) rfl (by decide) ao j c xs (by simp[Act.eval,Act.put]) ((own_ext (zu O) (zu hE2)).alloc _) ⟨w2.heap.size,0,none⟩ 1 1 [.int .i64 k',.int .i64 n',.complex .f64 re' im',.string s',.slice a2 l'.length c2] (by simp[Act.eval,Act.put]) (by decide) rfl (cells_new w2 #[.int .i64 k',.int .i64 n',.complex .f64 re' im',.string s',.slice a2 l'.length c2] 32) (by simp[Value.oneCell']) (by simp only[maxLen];omega) (by omega) (by simp;omega) ?_;intro g' cap2 w3 ho3 hg3 hw3;have hz:=grown_row hg3 ((Ext.alloc w2 _).row (zu RW2)) (zu NE);have hz4:=zr hz 4 rfl;have hzf:=rowF hz 4;clear hz;have G:=zh (⟨ho3,hg3,hw3⟩:_∧_∧_);clear ho3 hg3 hw3))
   all_goals
    go_wp2_with fail
    go_roundw
    case rel =>
     refine⟨j+1,some ⟨g',0,none⟩,cap2,by go_num,by omega,?_⟩;obtain⟨ho3,hg3,hw3⟩:=zu G;have hE3:=(zu hE2).trans (Ext.alloc w2 (.cells #[.int .i64 k',.int .i64 n',.complex .f64 re' im',.string s',.slice a2 l'.length c2] 32));have hM3:=(zu hM).on hE3;have htk:(l.take (j+1)).map norm=(l.take j).map norm++[PV.mk k' n' re' im' s' l']:=by
      obtain⟨hj2,hx2⟩:=List.getElem?_eq_some_iff.1 (zu X);rw[List.take_succ_eq_append_getElem hj2,List.map_append,hx2];simp[zu Q]
     have hpl:((l.take j).map norm).length=j:=by simp;omega
     have hrow:=zu ROW;have hO:=zu O;have hw2:=zu W2;have hL2:=zu L2;show Mid _ _ _ _ _;rw[htk];obtain⟨ps,hps⟩:∃ ps,ps=(l.take j).map norm:=⟨_,rfl⟩;rw[← hps] at hpl hM3 hrow ⊢;clear hps htk;subst hpl;refine Mid.snoc (p:=PV.mk k' n' re' im' s' l') hM3 ho3 (Row5.to (fun b hb=>⟨⟨hb.1,Nat.lt_of_lt_of_le hb.2.1 hE3.le,hb.2.2⟩,hE3.block b hb.2.1⟩) hrow) (zu B2) (RepL.to (fun b hb=>⟨⟨?fa,?fb,?fc⟩,?fd⟩) _ _ hL2) hg3 hw3
     case fa =>
      have h1:=hb.1;have h2:wr.heap.size+1≤b:=by simpa [World.drew] using h1
      omega
     case fb =>
      have h2:=hb.2;simp;omega
     case fc =>
      intro e;have h1:wr.heap.size+1≤b:=by simpa [World.drew] using hb.1
      have:=hO.lt b e.symm;omega
     case fd=>exact(Ext.alloc w2 _).block b hb.2
    case measure=>simp[intOf];omega
  ·have:j=l.length:=by omega
   subst this;have hr1:=(zu hM).r1;have hr2:=(zu hM).r2;have hx0:=zr hr1 0 rfl;have hx1:=zr hr1 1 rfl;have hx2:=zr hr1 2 rfl;have hx3:=zr hr1 3 rfl;have hx4:=zr hr1 4 rfl;have hf:=rowF hr1;have hy0:=zr hr2 0 rfl;have hy1:=zr hr2 1 rfl;have hy2:=zr hr2 2 rfl;have hy3:=zr hr2 3 rfl;have hy4:=zr hr2 4 rfl;clear hr1 hr2
   go_wp2_with fail
   have hM':=zu hM;rw[List.take_of_length_le (Nat.le_refl _)] at hM';obtain⟨hL,hcap⟩:=hM'.done;have hE:=(((((hM'.ext.set (a:=⟨w.heap.size+1,0,none⟩) (by simp) (.int .i64 4)).set (a:=⟨w.heap.size+1,1,none⟩) (by simp) (.int .i64 0)).set (a:=⟨w.heap.size+1,2,none⟩) (by simp) (.complex .f64 0 0)).set (a:=⟨w.heap.size+1,3,none⟩) (by simp) (.string ⟨#[]⟩)).set (a:=⟨w.heap.size+1,4,none⟩) (by simp) (.slice ao l.length c));refine bodyPost_ret (v:=.agg #[.int .i64 4,.int .i64 0,.complex .f64 0 0,.string ⟨#[]⟩,.slice ao l.length c]) (by simp[results,Tryz.results95,go_sem,hx0,hx1,hx2,hx3,hx4]) rfl ⟨_,rfl,?_,hE⟩;rw[norm,if_neg (by decide),if_neg (by decide),if_neg (by decide),if_pos rfl,normL_map,Rep]
   refine⟨ao,c,by simp,⟨by decide,by decide,by decide,by decide,by decide,by decide,by decide,by simpa using h72,hcap⟩,RepL.to (fun b hb=>⟨⟨by omega,?_⟩,?_⟩) _ _ hL⟩
   ·have hne:b≠w.heap.size+1:=by omega
    rw[Below.heap_setCell _ _ _ _ hne,Below.heap_setCell _ _ _ _ hne,Below.heap_setCell _ _ _ _ hne,Below.heap_setCell _ _ _ _ hne,Below.heap_setCell _ _ _ _ hne]
   ·simp only[World.setCell,Array.size_modify]
    exact hb.2
end V
namespace V
theorem bd0 {k n:Int} {re im:Nat} {s:ByteArray} (hk1:-9223372036854775808≤k) (hk2:k≤9223372036854775807) (hn1:-9223372036854775808≤n) (hn2:n≤9223372036854775807)
  (hre:re < 18446744073709551616) (him:im < 18446744073709551616) (hs:s.size≤140737488355328):Bd k n re im s 0 0:=⟨hk1,hk2,hn1,hn2,hre,him,hs,by decide,by decide⟩
theorem rep_leaf (w:World) (F:Nat→Prop) {k n:Int} {re im:Nat} {s:ByteArray} (hb:Bd k n re im s 0 0):Rep w F (.mk k n re im s []) (.agg #[.int .i64 k,.int .i64 n,.complex .f64 re im,.string s,.slice none 0 0]):=by
 rw[Rep];exact⟨none,0,rfl,hb,by simp[RepL]⟩
theorem copied_any:∀ (p:PV) (v:Value) (w:World),Rep w (In w) p v →
  Calls Tryz.prog 95 #[v] w fun e w' => ∃ v',e = .returned v'∧Rep w' (Fresh w w') (norm p) v'∧Ext w w':=by
 refine PV.byList ?_;intro k n re im s l ih v w hr;by_cases hk4:k=4
 ·subst hk4
  exact copied_four n re im s l ih v w hr
 ·rw[Rep] at hr
  obtain⟨a,cap,rfl,hb,hl⟩:=hr;have B:=zh hb;have hs:=hb.bs;clear hl ih hb;by_cases hk1:k=1
  ·subst hk1
   go_enter Tryz.func95,Tryz.ntmps95
   go_wp2_with (go_at_call 115;refine Calls.mono (int_any _ _) ?_;rintro e w1 ⟨rfl,hw1⟩;have hx0:=hw1.box 0 rfl;have hx1:=hw1.box 1 rfl;have hx2:=hw1.box 2 rfl;have hx3:=hw1.box 3 rfl;have hx4:=hw1.box 4 rfl;have hf:=hw1.boxF;simp only[heap_alloc_size] at hx0 hx1 hx2 hx3 hx4 hf)
   have hE:=((Ext.alloc w _).trans (Ext.alloc _ _)).trans hw1;have hb:=zu B;refine bodyPost_ret (v:=.agg #[.int .i64 1,.int .i64 n,.complex .f64 0 0,.string ⟨#[]⟩,.slice none 0 0]) (by simp[results,Tryz.results95,go_sem,hx0,hx1,hx2,hx3,hx4]) rfl ⟨_,rfl,?_,((((hE.set (by simp) _).set (by simp) _).set (by simp) _).set (by simp) _).set (by simp) _⟩;rw[norm,if_pos rfl];exact rep_leaf _ _ (bd0 hb.bk1 hb.bk2 hb.bn1 hb.bn2 (by decide) (by decide) (by decide))
  ·by_cases hk2:k=2
   ·subst hk2
    go_enter Tryz.func95,Tryz.ntmps95
    go_wp2_with fail
    go_returns
    have hb:=zu B;refine⟨_,rfl,?_,(Ext.alloc _ _).trans (Ext.alloc _ _)⟩;rw[norm,if_neg (by decide),if_pos rfl];exact rep_leaf _ _ (bd0 hb.bk1 hb.bk2 (by decide) (by decide) hb.bre hb.bim (by decide))
   ·by_cases hk3:k=3
    ·subst hk3
     go_enter Tryz.func95,Tryz.ntmps95
     go_wp2_with (go_at_call 116;refine Calls.mono (clone_any _ _ hs) ?_;rintro e w1 ⟨rfl,hw1⟩;have hx0:=hw1.box 0 rfl;have hx1:=hw1.box 1 rfl;have hx2:=hw1.box 2 rfl;have hx3:=hw1.box 3 rfl;have hx4:=hw1.box 4 rfl;have hf:=hw1.boxF;simp only[heap_alloc_size] at hx0 hx1 hx2 hx3 hx4 hf)
     have hE:=((Ext.alloc w _).trans (Ext.alloc _ _)).trans hw1;have hb:=zu B;refine bodyPost_ret (v:=.agg #[.int .i64 3,.int .i64 0,.complex .f64 0 0,.string s,.slice none 0 0]) (by simp[results,Tryz.results95,go_sem,hx0,hx1,hx2,hx3,hx4]) rfl ⟨_,rfl,?_,((((hE.set (by simp) _).set (by simp) _).set (by simp) _).set (by simp) _).set (by simp) _⟩;rw[norm,if_neg (by decide),if_neg (by decide),if_pos rfl];exact rep_leaf _ _ (bd0 hb.bk1 hb.bk2 (by decide) (by decide) (by decide) (by decide) hs)
    ·have e1:(k == 1)=false:=by simpa using hk1
     have e2:(k == 2)=false:=by simpa using hk2
     have e3:(k == 3)=false:=by simpa using hk3
     have e4:(k == 4)=false:=by simpa using hk4
     go_enter Tryz.func95,Tryz.ntmps95
     go_wp2_with (go_at_call 108;refine Calls.mono (nil_any _) ?_;rintro e w1 ⟨rfl,hw1⟩;have hx0:=hw1.box 0 rfl;have hx1:=hw1.box 1 rfl;have hx2:=hw1.box 2 rfl;have hx3:=hw1.box 3 rfl;have hx4:=hw1.box 4 rfl;have hf:=hw1.boxF;simp only[heap_alloc_size] at hx0 hx1 hx2 hx3 hx4 hf)
     have hE:=((Ext.alloc w _).trans (Ext.alloc _ _)).trans hw1;refine bodyPost_ret (v:=nilV) (by simp[results,Tryz.results95,go_sem,hx0,hx1,hx2,hx3,hx4]) rfl ⟨_,rfl,?_,((((hE.set (by simp) _).set (by simp) _).set (by simp) _).set (by simp) _).set (by simp) _⟩;rw[norm,if_neg hk1,if_neg hk2,if_neg hk3,if_neg hk4];exact rep_nil _ _
def cp (p:PV):PV:=norm (tk p)
theorem copy_any (p:PV) (v:Value) (w:World) (hr:Rep w (In w) p v) :
  Calls Tryz.prog 59 #[v] w fun e w' => ∃ v',e = .returned v'∧Rep w' (Fresh w w') (cp p) v'∧Ext w w':=by
 have hc:=fun w' (h:Ext w w')=>taken_any p v w' (hr.ext h);have hd:=fun v' w' (h:Rep w' (In w') (tk p) v')=>copied_any (tk p) v' w' h;have hq:cp p=norm (tk p):=rfl;obtain⟨q,hq2⟩:∃ q,q=norm (tk p):=⟨_,rfl⟩;rw[hq,← hq2];rw[← hq2] at hd;obtain⟨t,ht⟩:∃ t,t=tk p:=⟨_,rfl⟩;rw[← ht] at hc hd;clear hq hq2 ht;cases p with
 | mk k n re im s l =>
 cases q with
 | mk k' n' re' im' s' l' =>
 rw[Rep] at hr;obtain⟨a,cap,rfl,hb,hl⟩:=hr;have C:=zh hc;have D:=zh hd;clear hc hd hb hl
 go_enter Tryz.func59,Tryz.ntmps59
 go_wp2_with (first | (go_at_call 89;refine Calls.mono (zu C _ ((Ext.alloc _ _).trans (Ext.alloc _ _))) ?_;rintro e w1 ⟨v1,rfl,hr1,hw1⟩) | (go_at_call 95;refine Calls.mono (zu D _ _ hr1) ?_;rintro e w2 ⟨v2,rfl,hr2,hw2⟩;rw[Rep] at hr2;obtain⟨a2,c2,rfl,hb2,hl2⟩:=hr2;have hw3:=hw1.trans hw2;have hx0:=hw3.box 0 rfl;have hx1:=hw3.box 1 rfl;have hx2:=hw3.box 2 rfl;have hx3:=hw3.box 3 rfl;have hx4:=hw3.box 4 rfl;have hf:=hw3.boxF;simp only[heap_alloc_size] at hx0 hx1 hx2 hx3 hx4 hf))
 have hE:=((Ext.alloc w _).trans (Ext.alloc _ _)).trans hw3;have hE5:=((((hE.set (a:=⟨w.heap.size+1,0,none⟩) (by simp) (.int .i64 k')).set (a:=⟨w.heap.size+1,1,none⟩) (by simp) (.int .i64 n')).set (a:=⟨w.heap.size+1,2,none⟩) (by simp) (.complex .f64 re' im')).set (a:=⟨w.heap.size+1,3,none⟩) (by simp) (.string s')).set (a:=⟨w.heap.size+1,4,none⟩) (by simp) (.slice a2 l'.length c2);have hlow:w.heap.size+1 < w1.heap.size:=by have:=hw1.le;simp at this;omega
 refine bodyPost_ret (v:=.agg #[.int .i64 k',.int .i64 n',.complex .f64 re' im',.string s',.slice a2 l'.length c2]) (by simp[results,Tryz.results59,go_sem,hx0,hx1,hx2,hx3,hx4]) rfl ⟨_,rfl,?_,hE5⟩;rw[Rep];refine⟨a2,c2,rfl,hb2,RepL.to (fun b hb=>⟨⟨?fa,?fb⟩,?fc⟩) _ _ hl2⟩
 case fa=>have:=hb.1;omega
 case fb =>
  simp only[World.setCell,Array.size_modify];exact hb.2
 case fc =>
  have hne:b≠w.heap.size+1:=by have:=hb.1;omega
  rw[Below.heap_setCell _ _ _ _ hne,Below.heap_setCell _ _ _ _ hne,Below.heap_setCell _ _ _ _ hne,Below.heap_setCell _ _ _ _ hne,Below.heap_setCell _ _ _ _ hne]
end V
namespace V
def it (n:Int):PV:=.mk 1 n 0 0 ⟨#[]⟩ []
theorem ord00:FloatKind.f64.format.order 0 0=some Ordering.eq:=by kernel_rfl
theorem empty_list:({ data:=#[] }:ByteArray).toList = []:=by simp[ByteArray.toList,ByteArray.toList.loop,ByteArray.size]
theorem wfv_it (n:Int):wfv (it n)=true:=by simp[it,wfv,wfvL,unused,ord00,empty_list]
theorem sz_it (n:Int) (d:Nat):sz (it n) d=1:=by rw[it,sz,if_neg (by decide),if_neg (by decide)]
theorem okv_it (n:Int):okv (it n)=true:=by rw[okv,wfv_it,sz_it];rfl
end V
namespace V
abbrev RK:=Sum Int Bool
abbrev rcK:Option RK→Int
 | none => 0
 | some (.inl _) => 1
 | some (.inr true) => 2
 | some (.inr false) => 3
abbrev rcN:Option RK→Int
 | some (.inl n)=>n
 | _ => 0
abbrev rcM:Option RK→Nat
 | some (.inr true) => 4611686018427387904
 | _ => 0
abbrev rcB:Option RK→Bool
 | some (.inl n)=>decide (-9223372036854775808≤n∧n≤9223372036854775807)
 | _=>true
abbrev rcC (v:Option RK):List Value:=[.int .i64 (rcK v),.int .i64 (rcN v),.complex .f64 0 (rcM v),.string ⟨#[]⟩,.slice none 0 0]
abbrev rcV (v:Option RK):Value:=.agg #[.int .i64 (rcK v),.int .i64 (rcN v),.complex .f64 0 (rcM v),.string ⟨#[]⟩,.slice none 0 0]
def rcP (v:Option RK):PV:=.mk (rcK v) (rcN v) 0 (rcM v) ⟨#[]⟩ []
theorem one_rc (v:Option RK):∀ u ∈ rcC v,u.oneCell' = true:=by
 intro u hu;simp at hu;rcases hu with rfl | rfl | rfl | rfl | rfl <;> rfl
theorem okv_rc (v:Option RK):okv (rcP v)=true:=by
 cases v with
 | none=>kernel_rfl
 | some k =>
  cases k with
  | inl n=>kernel_rfl
  | inr b=>cases b <;> kernel_rfl
theorem rc_bd (v:Option RK) (hv:rcB v=true):Bd (rcK v) (rcN v) 0 (rcM v) ⟨#[]⟩ 0 0:=by
 cases v with
 | none=>constructor <;> decide
 | some k =>
  cases k with
  | inl n =>
   have h:=of_decide_eq_true hv;exact⟨by show (-9223372036854775808:Int)≤1;decide,by show (1:Int)≤9223372036854775807;decide,h.1,h.2,by decide,by show 0 < 18446744073709551616;decide,by decide,by decide,by decide⟩
  | inr b=>cases b <;> (constructor <;> decide)
theorem rc_rep (v:Option RK) (hv:rcB v=true) (W:World) (F:Nat→Prop):Rep W F (rcP v) (rcV v):=by
 unfold rcP;rw[Rep];exact⟨none,0,rfl,rc_bd v hv,by simp[RepL]⟩
end V
namespace V
abbrev rkV (v:Option RK) (a:Option Addr) (c:Nat):Value:=.agg #[.int .i64 (rcK v),.int .i64 (rcN v),.complex .f64 0 (rcM v),.string ⟨#[]⟩,.slice a 0 c]
theorem rdeep_rc (v:Option RK) (a:Option Addr) (c:Nat) (w:World):Calls Tryz.prog 75 #[rkV v a c,.int .i64 24] w fun e w'=>e = .returned (.tuple #[.int .i64 1,.bool true])∧Ext w w':=by
 match v with
 | none =>
  go_enter Tryz.func75,Tryz.ntmps75
  go_wp2_with fail
  exact bodyPost_ret (v:=.tuple #[.int .i64 1,.bool true]) (by simp[results,Tryz.results75] <;> decide) rfl ⟨rfl,Ext.alloc _ _⟩
 | some (.inl n) =>
  go_enter Tryz.func75,Tryz.ntmps75
  go_wp2_with fail
  exact bodyPost_ret (v:=.tuple #[.int .i64 1,.bool true]) (by simp[results,Tryz.results75] <;> decide) rfl ⟨rfl,Ext.alloc _ _⟩
 | some (.inr true) =>
  go_enter Tryz.func75,Tryz.ntmps75
  go_wp2_with fail
  exact bodyPost_ret (v:=.tuple #[.int .i64 1,.bool true]) (by simp[results,Tryz.results75] <;> decide) rfl ⟨rfl,Ext.alloc _ _⟩
 | some (.inr false) =>
  go_enter Tryz.func75,Tryz.ntmps75
  go_wp2_with fail
  exact bodyPost_ret (v:=.tuple #[.int .i64 1,.bool true]) (by simp[results,Tryz.results75] <;> decide) rfl ⟨rfl,Ext.alloc _ _⟩
theorem rform_rc (v:Option RK) (a:Option Addr) (c:Nat) (w:World):Calls Tryz.prog 76 #[rkV v a c] w fun e w'=>e = .returned (.bool true)∧Ext w w':=by
 have hO:(!FloatKind.f64.format.order 0 0 == some Ordering.eq)=false:=by kernel_rfl
 have hS:Hd (∀ W,Calls Tryz.prog 100 #[.complex .f64 0 4611686018427387904] W fun e w'=>e = .returned (.bool true)∧w' = W):=fun W=>by
  have h:=rok_any 0 4611686018427387904 W (by unfold Wd;decide) (by unfold Wd;decide);rw[show okB 0 4611686018427387904=true by kernel_rfl] at h;exact h
 match v with
 | none =>
  go_enter Tryz.func76,Tryz.ntmps76
  go_wp2_with fail
  go_loopw [3] (fun t wr=>t = .int .i64 0∧Hd (Ext w wr)∧wr.cell? ⟨w.heap.size,4,none⟩=some (.slice a 0 c)) (fun _ _ => 0)
  case atStart=>exact⟨rfl,Ext.alloc _ _,cell_box w _ _ 4 rfl⟩
  case round =>
   obtain⟨rfl,hX,c4⟩:=hrel
   go_wp2_with fail
   go_ret;exact⟨rfl,zu hX⟩
 | some (.inl n) =>
  show Calls Tryz.prog 76 #[.agg #[.int .i64 1,.int .i64 n,.complex .f64 0 0,.string ⟨#[]⟩,.slice a 0 c]] w _;by_cases hn:n=0
  ·subst hn
   go_enter Tryz.func76,Tryz.ntmps76
   go_wp2_with fail
   go_loopw [3] (fun t wr=>t = .int .i64 0∧Hd (Ext w wr)∧wr.cell? ⟨w.heap.size,4,none⟩=some (.slice a 0 c)) (fun _ _ => 0)
   case atStart=>exact⟨rfl,Ext.alloc _ _,cell_box w _ _ 4 rfl⟩
   case round =>
    obtain⟨rfl,hX,c4⟩:=hrel
    go_wp2_with fail
    go_ret;exact⟨rfl,zu hX⟩
  ·have hnf:(n == 0)=false:=by simpa using hn
   have hnt:(n != 0)=true:=by simp[hn]
   go_enter Tryz.func76,Tryz.ntmps76
   go_wp2_with fail
   go_loopw [3] (fun t wr=>t = .int .i64 0∧Hd (Ext w wr)∧wr.cell? ⟨w.heap.size,4,none⟩=some (.slice a 0 c)) (fun _ _ => 0)
   case atStart=>exact⟨rfl,Ext.alloc _ _,cell_box w _ _ 4 rfl⟩
   case round =>
    obtain⟨rfl,hX,c4⟩:=hrel
    go_wp2_with fail
    go_ret;exact⟨rfl,zu hX⟩
 | some (.inr true) =>
  go_enter Tryz.func76,Tryz.ntmps76
  go_wp2_with (go_at_call 100;refine Calls.mono (zu hS _) ?_;rintro e wq ⟨rfl,hw⟩;obtain rfl:=hw.symm)
  go_loopw [3] (fun t wr=>t = .int .i64 0∧Hd (Ext w wr)∧wr.cell? ⟨w.heap.size,4,none⟩=some (.slice a 0 c)) (fun _ _ => 0)
  case atStart=>exact⟨rfl,Ext.alloc _ _,cell_box w _ _ 4 rfl⟩
  case round =>
   obtain⟨rfl,hX,c4⟩:=hrel
   go_wp2_with fail
   go_ret;exact⟨rfl,zu hX⟩
 | some (.inr false) =>
  go_enter Tryz.func76,Tryz.ntmps76
  go_wp2_with fail
  go_loopw [3] (fun t wr=>t = .int .i64 0∧Hd (Ext w wr)∧wr.cell? ⟨w.heap.size,4,none⟩=some (.slice a 0 c)) (fun _ _ => 0)
  case atStart=>exact⟨rfl,Ext.alloc _ _,cell_box w _ _ 4 rfl⟩
  case round =>
   obtain⟨rfl,hX,c4⟩:=hrel
   go_wp2_with fail
   go_ret;exact⟨rfl,zu hX⟩
theorem rok_rc (v:Option RK) (a:Option Addr) (c:Nat) (w:World):Calls Tryz.prog 45 #[rkV v a c] w fun e w'=>e = .returned (.bool true)∧Ext w w':=by
 have HD:=zh (fun W=>rdeep_rc v a c W);have HF:=zh (fun W=>rform_rc v a c W)
 go_enter Tryz.func45,Tryz.ntmps45
 go_wp2_with (first
  | (go_at_call 75;refine Calls.mono (zu HD _) ?_;rintro e w1 ⟨rfl,hx⟩;have X1:=zh ((Ext.alloc _ _).trans hx);have b0:=hx.box 0 rfl;have b1:=hx.box 1 rfl;have b2:=hx.box 2 rfl;have b3:=hx.box 3 rfl;have b4:=hx.box 4 rfl;clear hx)
  | (go_at_call 76;refine Calls.mono (zu HF _) ?_;rintro e w2 ⟨rfl,hx⟩;have X2:=zh ((zu X1).trans hx);clear hx))
 go_ret;exact⟨rfl,zu X2⟩
end V
end Go.Proofs.YtjnpehohialmbaaGreat
