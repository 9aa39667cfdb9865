/- The document's own reader: it takes a word,wants one,reads a name,opens. · The document's own reader: it wants a word,reads a name,opens. · The document's own reader of expressions: what it answers. · The operators of a level,as the document finds them. -/
import Derived.Test.YtgkdmgndebifiaaGreatDoorZd7
import Derived.Test.YtgkdmgndebifiaaGreatDoorZd6
set_option linter.unusedSimpArgs false
set_option linter.unusedVariables false
set_option maxRecDepth 10000
namespace Go.Proofs.YtgkdmgndebifiaaGreatDoor
open Go.RowKit
variable {w w':World} {g len:Nat} {T:List Tk} {wd:Int} {st:PS}
theorem Rp.step (h:Rp w g len T wd st) (h0:st.e = 0) (hne:st.ts ≠ []):∃ i:Nat,w.cell? ⟨g,1,none⟩ = some (.int .i64 (i:Int)) ∧ i < 4001 ∧
  ∀ W,Gr g w W → W.heap[g]? = w.heap[g]? → Rp (W.setCell ⟨g,1,none⟩ (.int .i64 ((i:Int) + 1))) g len T wd st.next:=by
 obtain ⟨V,i,pl,dp,h1,h2,h3,h4,h5⟩:=h.ex
 obtain ⟨h6,rfl⟩:=h4 h0
 have htl:=h.tl
 have hi:i < T.length:=by
  apply Nat.lt_of_not_le
  intro hle
  exact hne (by rw [← h6];exact List.drop_eq_nil_of_le hle)
 refine ⟨i,rowC h1 1 rfl,by omega,fun W k hg => ?_⟩
 have r2:=row_set (hg.trans h1) 1 (.int .i64 ((i:Int) + 1))
 refine ⟨⟨V,i + 1,pl,st.op,r2,?_,by omega,fun _ => ⟨?_,rfl⟩,fun e => absurd h0 e⟩,(next_kp h.nv).nv h.nv,h.tk,h.tl⟩
 ·exact h2.on (k.set (p:=⟨g,1,none⟩) (Or.inr rfl) _)
 ·show T.drop (i + 1) = st.ts.tail
  rw [← h6,← List.drop_one,List.drop_drop]
theorem Rp.shut (h:Rp w g len T wd st) (hop:st.e = 0 → 1 ≤ st.op):∃ dp:Int,w.cell? ⟨g,4,none⟩ = some (.int .i64 dp) ∧
  ∀ W,Gr g w W → W.heap[g]? = w.heap[g]? → Rp (W.setCell ⟨g,4,none⟩ (.int .i64 (wrap64 (dp - 1)))) g len T wd st.leave:=by
 obtain ⟨V,i,pl,dp,h1,h2,h3,h4,h5⟩:=h.ex
 refine ⟨dp,rowC h1 4 rfl,fun W k hg => ?_⟩
 have r2:=row_set (hg.trans h1) 4 (.int .i64 (wrap64 (dp - 1)))
 refine ⟨⟨V,i,pl,wrap64 (dp - 1),r2,h2.on (k.set (p:=⟨g,4,none⟩) (Or.inr rfl) _),h3,fun e => ⟨(h4 e).1,?_⟩,h5⟩,⟨fun e => ?_,h.nv.nil⟩,h.tk,h.tl⟩
 ·rw [(h4 e).2];rfl
 ·have h6:=h.nv.rng e
  have h7:=hop e
  show 0 ≤ wrap64 (st.op - 1) ∧ wrap64 (st.op - 1) ≤ 24
  unfold wrap64
  omega
def PS.takeA (st:PS) (s:ByteArray):Bool × PS:=if st.e = 0 ∧ st.isA s = true then (true,st.next) else (false,st)
theorem isS_nil {st:PS} (h:st.ts = []) (s:ByteArray):st.isS s = false:=by unfold PS.isS isT;rw [hd_nil h];rfl
theorem isW_nil {st:PS} (h:st.ts = []) (s:ByteArray):st.isW s = false:=by unfold PS.isW isT;rw [hd_nil h];rfl
theorem isA_ne {st:PS} {s:ByteArray} (h:st.isA s = true):st.ts ≠ []:=by
 intro e
 unfold PS.isA at h
 rw [hd_nil e] at h
 cases h
theorem takeA_S (h:Rp w g len T wd st) {s:ByteArray} (hs:wordL s.toList = false):st.takeA s = st.takeS s:=by
 unfold PS.takeA PS.takeS
 by_cases h0:st.e = 0
 ·rw [isA_S h h0 hs];simp [h0]
 ·rw [isS_nil (h.nv.nil h0)];simp [h0]
theorem takeA_W (h:Rp w g len T wd st) {s:ByteArray} (hs:(o2 s.toList || o1 s.toList) = false):st.takeA s = st.takeW s:=by
 unfold PS.takeA PS.takeW
 by_cases h0:st.e = 0
 ·rw [isA_W h h0 hs];simp [h0]
 ·rw [isW_nil (h.nv.nil h0)];simp [h0]
set_option maxHeartbeats 1000000 in
theorem take_a (h:Rp w g len T wd st) (s:ByteArray):Calls Tryz.prog 33 #[.pointer (some ⟨g,0,none⟩),.string s] w (RAns w g len T wd (.bool (st.takeA s).1) (st.takeA s).2):=by
 have H:=hide h
 unfold PS.takeA
 by_cases h0:st.e = 0
 ·have HI:=hide (is_r h h0 s)
  obtain ⟨V,i,pl,dp,h1,-⟩:=h.ex
  rw [h0] at h1
  cases hb:st.isA s
  ·rw [hb] at HI
   rw [if_neg (by simp)]
   obtain ⟨c0,c1,c2,c3,c4,c5,c6,zf⟩:=rp_c h1
   clear h1 h
   go_enter Tryz.func33,Tryz.ntmps33
   go_wp2_with (go_at_call 49;refine Calls.mono (unhide HI) ?_;rintro e w1 ⟨rfl,hw⟩;have X1:=hide hw;clear hw)
   go_ret
   exact ⟨rfl,(unhide H).ext (unhide X1),Gr.of (unhide X1)⟩
  ·rw [hb] at HI
   rw [if_pos ⟨h0,rfl⟩]
   obtain ⟨j,cj,hj,hst⟩:=h.step h0 (isA_ne hb)
   have HS:=hide hst
   obtain ⟨c0,c1,c2,c3,c4,c5,c6,zf⟩:=rp_c h1
   obtain rfl:i = j:=by
    rw [c1] at cj
    injection cj with cj
    injection cj with _ cj
    omega
   have HG:=hide h.lt
   have H1:=hide h1
   clear h1 h hst cj hb h0
   go_enter Tryz.func33,Tryz.ntmps33
   go_wp2_with (go_at_call 49;refine Calls.mono (unhide HI) ?_;rintro e w1 ⟨rfl,hw⟩;have c1:=hw.cell c1;have zf:=rowF (hw.row (unhide H1));have X1:=hide hw;clear hw)
   go_ret
   exact ⟨rfl,unhide HS _ (Gr.of (unhide X1)) ((unhide X1).block g (unhide HG)),(Gr.of (unhide X1)).set (p:=⟨g,_,none⟩) (Or.inr rfl) _⟩
 ·have he3:(st.e != 0) = true:=by simp [h0]
  have he2:(st.e == 0) = false:=by simpa using h0
  rw [if_neg (by simp [h0])]
  obtain ⟨V,i,pl,dp,h1,-⟩:=h.ex
  obtain ⟨c0,c1,c2,c3,c4,c5,c6,zf⟩:=rp_c h1
  clear h1 h h0
  go_enter Tryz.func33,Tryz.ntmps33
  go_wp2
  go_ret
  exact ⟨rfl,unhide H,Gr.refl _ _⟩
end Go.Proofs.YtgkdmgndebifiaaGreatDoor
namespace Go.Proofs.YtgkdmgndebifiaaGreatDoor
open Go.RowKit
variable {w w':World} {g len:Nat} {T:List Tk} {wd:Int} {st:PS}
def PS.wantA (st:PS) (len:Nat) (s:ByteArray):PS:=if (st.takeA s).1 then (st.takeA s).2 else st.fail len 10
theorem wantA_S (h:Rp w g len T wd st) {s:ByteArray} (hs:wordL s.toList = false):st.wantA len s = st.sign len s:=by
 unfold PS.wantA
 rw [takeA_S h hs]
 unfold PS.takeS PS.sign
 cases st.isS s <;> rfl
theorem wantA_W (h:Rp w g len T wd st) {s:ByteArray} (hs:(o2 s.toList || o1 s.toList) = false):st.wantA len s = st.word len s:=by
 unfold PS.wantA
 rw [takeA_W h hs]
 unfold PS.takeW PS.word
 cases st.isW s <;> rfl
set_option maxHeartbeats 1000000 in
theorem want_a (h:Rp w g len T wd st) (s:ByteArray):Calls Tryz.prog 31 #[.pointer (some ⟨g,0,none⟩),.string s] w (RAns w g len T wd (.tuple #[]) (st.wantA len s)):=by
 have HT:=hide (take_a h s)
 have HF:=hide (fun (W:World) (x:Rp W g len T wd st) => fail_r x 10 (by decide))
 unfold PS.wantA
 have hs2:(st.takeA s).1 = false → (st.takeA s).2 = st:=by
  unfold PS.takeA
  split
  ·intro e;cases e
  ·intro _;rfl
 cases hb:(st.takeA s).1
 ·rw [hb,hs2 hb] at HT
  rw [if_neg (by decide)]
  clear h hs2 hb
  go_enter Tryz.func31,Tryz.ntmps31
  go_wp2_with (first
   | (go_at_call 33;refine Calls.mono (unhide HT) ?_;rintro e w1 ⟨rfl,hr,hw⟩;have X1:=hide hw;have R1:=hide hr;clear hw hr)
   | (have T9:=unhide R1;go_at_call 47;refine Calls.mono (unhide HF _ T9) ?_;rintro e w2 ⟨rfl,hr,hw⟩;have X2:=hide ((unhide X1).trans hw);have R2:=hide hr;clear hw hr T9))
  go_end0
  exact ⟨rfl,unhide R2,unhide X2⟩
 ·rw [hb] at HT
  rw [if_pos rfl]
  clear h hs2 hb
  go_enter Tryz.func31,Tryz.ntmps31
  go_wp2_with (first
   | (go_at_call 33;refine Calls.mono (unhide HT) ?_;rintro e w1 ⟨rfl,hr,hw⟩;have X1:=hide hw;have R1:=hide hr;clear hw hr))
  go_end0
  exact ⟨rfl,unhide R1,unhide X1⟩
theorem want_s (h:Rp w g len T wd st) (s:ByteArray) (hs:wordL s.toList = false):Calls Tryz.prog 31 #[.pointer (some ⟨g,0,none⟩),.string s] w (RAns w g len T wd (.tuple #[]) (st.sign len s)):=by
 rw [← wantA_S h hs];exact want_a h s
theorem want_w (h:Rp w g len T wd st) (s:ByteArray) (hs:(o2 s.toList || o1 s.toList) = false):Calls Tryz.prog 31 #[.pointer (some ⟨g,0,none⟩),.string s] w (RAns w g len T wd (.tuple #[]) (st.word len s)):=by
 rw [← wantA_W h hs];exact want_a h s
theorem take_s (h:Rp w g len T wd st) (s:ByteArray) (hs:wordL s.toList = false):Calls Tryz.prog 33 #[.pointer (some ⟨g,0,none⟩),.string s] w (RAns w g len T wd (.bool (st.takeS s).1) (st.takeS s).2):=by
 rw [← takeA_S h hs];exact take_a h s
theorem take_w (h:Rp w g len T wd st) (s:ByteArray) (hs:(o2 s.toList || o1 s.toList) = false):Calls Tryz.prog 33 #[.pointer (some ⟨g,0,none⟩),.string s] w (RAns w g len T wd (.bool (st.takeW s).1) (st.takeW s).2):=by
 rw [← takeA_W h hs];exact take_a h s
theorem Rp.open (h:Rp w g len T wd st) (h0:st.e = 0) (hop:st.op < 24):st.enter len = st.up ∧ w.cell? ⟨g,4,none⟩ = some (.int .i64 st.op) ∧
  ∀ W,Gr g w W → W.heap[g]? = w.heap[g]? → Rp (W.setCell ⟨g,4,none⟩ (.int .i64 (st.op + 1))) g len T wd (st.enter len):=by
 obtain ⟨V,i,pl,dp,h1,h2,h3,h4,h5⟩:=h.ex
 obtain ⟨h6,rfl⟩:=h4 h0
 have hr:=h.nv.rng h0
 have hw:wrap64 (st.op + 1) = st.op + 1:=by unfold wrap64;omega
 have e:st.enter len = st.up:=by unfold PS.enter;rw [hw,if_neg (by omega)]
 refine ⟨e,rowC h1 4 rfl,fun W k hg => ?_⟩
 have r2:=row_set (hg.trans h1) 4 (.int .i64 (st.op + 1))
 have nv:=enter_nv h.nv len
 rw [e] at nv ⊢
 refine ⟨⟨V,i,pl,st.op + 1,r2,h2.on (k.set (p:=⟨g,4,none⟩) (Or.inr rfl) _),h3,fun _ => ⟨h6,hw.symm⟩,h5⟩,nv,h.tk,h.tl⟩
set_option maxHeartbeats 1000000 in
theorem in_r (h:Rp w g len T wd st):Calls Tryz.prog 50 #[.pointer (some ⟨g,0,none⟩)] w (RAns w g len T wd (.bool ((st.enter len).e == 0)) (st.enter len)):=by
 by_cases h0:st.e = 0
 ·obtain ⟨hr1,hr2⟩:=h.nv.rng h0
  obtain ⟨V,i,pl,dp,h1,h2,h3,h4,h5⟩:=h.ex
  have hdp:=(h4 h0).2
  rw [h0,hdp] at h1
  by_cases hop:st.op < 24
  ·obtain ⟨e,ce,hst⟩:=h.open h0 hop
   have HS:=hide (hst w (Gr.refl _ _) rfl)
   have he:((st.enter len).e == 0) = true:=by rw [e];show (st.e == 0) = true;rw [h0];rfl
   rw [he]
   obtain ⟨c0,c1,c2,c3,c4,c5,c6,zf⟩:=rp_c h1
   clear h1 h hst h2 h4 h5 he e ce hdp h0
   go_enter Tryz.func50,Tryz.ntmps50
   go_wp2
   go_ret
   exact ⟨rfl,unhide HS,(Gr.refl _ _).set (p:=⟨g,_,none⟩) (Or.inr rfl) _⟩
  ·have HF:=hide (fail_r h 21 (by decide))
   have hfe:st.enter len = st.up.fail len 21:=by unfold PS.enter;rw [if_pos (by unfold wrap64;omega)]
   have he2:Hd (∀ W,Rp W g len T wd (st.fail len 21) → Rp W g len T wd (st.enter len)):=fun W x => by
    rw [hfe]
    obtain ⟨V,i,pl,dp,k1,k2,k3,k4,k5⟩:=x.ex
    have e1:(st.fail len 21) = ⟨[],st.op,st.here len,21⟩:=by unfold PS.fail;rw [if_pos h0]
    have e2:(st.up.fail len 21) = ⟨[],st.up.op,st.here len,21⟩:=by unfold PS.fail;rw [if_pos (show st.up.e = 0 from h0)];rfl
    rw [e1] at k1 k5
    rw [e2]
    exact ⟨⟨V,i,pl,dp,k1,k2,k3,fun e => absurd e (show ¬ (21:Int) = 0 by decide),k5⟩,⟨fun e => absurd e (show ¬ (21:Int) = 0 by decide),fun _ => rfl⟩,x.tk,x.tl⟩
   have he:((st.enter len).e == 0) = false:=by
    rw [hfe]
    have e2:(st.up.fail len 21) = ⟨[],st.up.op,st.here len,21⟩:=by unfold PS.fail;rw [if_pos (show st.up.e = 0 from h0)];rfl
    rw [e2];rfl
   rw [he]
   obtain ⟨c0,c1,c2,c3,c4,c5,c6,zf⟩:=rp_c h1
   clear h1 h h2 h4 h5 he hfe hdp h0
   go_enter Tryz.func50,Tryz.ntmps50
   go_wp2_with (go_at_call 47;refine Calls.mono (unhide HF) ?_;rintro e w2 ⟨rfl,hr,hw⟩;have X2:=hide hw;have R2:=hide hr;clear hw hr)
   go_ret
   exact ⟨rfl,unhide he2 _ (unhide R2),unhide X2⟩
 ·have he3:(st.e != 0) = true:=by simp [h0]
  have he2:(st.e == 0) = false:=by simpa using h0
  have eb:=enter_bad len h0
  have hR:Rp w g len T wd (st.enter len):=by
   obtain ⟨V,i,pl,dp,k1,k2,k3,k4,k5⟩:=h.ex
   exact ⟨⟨V,i,pl,dp,by rw [eb.1];exact k1,k2,k3,fun e => absurd (eb.1.symm.trans e) h0,fun _ => (k5 h0).trans eb.2.symm⟩,enter_nv h.nv len,h.tk,h.tl⟩
  have HR:=hide hR
  have he:((st.enter len).e == 0) = false:=by rw [eb.1];exact he2
  rw [he]
  obtain ⟨V,i,pl,dp,h1,-⟩:=h.ex
  obtain ⟨c0,c1,c2,c3,c4,c5,c6,zf⟩:=rp_c h1
  clear h1 h h0 hR eb he
  go_enter Tryz.func50,Tryz.ntmps50
  go_wp2
  go_ret
  exact ⟨rfl,unhide HR,Gr.refl _ _⟩
end Go.Proofs.YtgkdmgndebifiaaGreatDoor
namespace Go.Proofs.YtgkdmgndebifiaaGreatDoor
open Go.RowKit
def RNode (w:World) (g len:Nat) (T:List Tk) (wd:Int) (r:PN × PS) (e:Ending) (w':World):Prop :=
 ∃ v p,e = .returned v ∧ RepN w' (Fr w.heap.size w'.heap.size) p v ∧ (r.2.e = 0 → p = r.1) ∧ Rp w' g len T wd r.2 ∧ Gr g w w'
def RIs (g len:Nat) (T:List Tk) (wd:Int) (lv:Int) (rd:Rdr) (st:PS):Prop :=
 ∀ W,Rp W g len T wd st → Calls Tryz.prog 64 #[.pointer (some ⟨g,0,none⟩),.int .i64 lv] W (RNode W g len T wd (rd st))
variable {w w':World} {g len:Nat} {T:List Tk} {wd:Int} {st:PS}
theorem repZ (w:World) (F:Nat → Prop):RepN w F nodeZ (.agg #[.int .i64 0,.int .i64 0,.string ⟨#[]⟩,.int .i64 0,.slice none 0 0]):=by
 unfold nodeZ
 rw [RepN]
 exact ⟨none,0,rfl,Nat.le_refl _,trivial⟩
theorem Rp.set5 (h:Rp w g len T wd st) {b:Nat} (hb:g < b) (k o:Int) (s:ByteArray) (n:Int) (l:Value):Rp (set5 w b k o s n l) g len T wd st:=by
 have hs:(Go.Proofs.YtgkdmgndebifiaaGreatDoor.set5 w b k o s n l).heap[g]? = w.heap[g]?:=set5_block (by omega) _ _ _ _ _
 obtain ⟨V,i,pl,dp,h1,⟨a,cap,rfl,q1,q2,q3⟩,h3⟩:=h.ex
 refine ⟨⟨_,i,pl,dp,hs.trans h1,⟨a,cap,rfl,q1,q2,?_⟩,h3⟩,h.nv,h.tk,h.tl⟩
 rcases q3 with q3 | ⟨b',off,rfl,hb',hc⟩
 ·exact Or.inl q3
 ·refine Or.inr ⟨b',off,rfl,hb',fun j u hu => ?_⟩
  rw [World.cell?_of_block (w:=w) (set5_block (by show b' ≠ b;omega) _ _ _ _ _)]
  exact hc j u hu
theorem rnode_end {w2:World} {r:PN × PS} {k o n:Int} {s:ByteArray} {a:Option Addr} {cap:Nat} {l:List PN} (hg:g < w.heap.size) (hs:Rp w2 g len T wd r.2) (hw:Gr g w w2) (hl:l.length ≤ cap) (hr:RepNL w2 (fun b => w.heap.size < b ∧ b < w2.heap.size) l a) (hp:r.2.e = 0 → (⟨k,o,s,n,l⟩:PN) = r.1) :
  RNode w g len T wd r (.returned (nodV k o s n (.slice a l.length cap))) (set5 w2 w.heap.size k o s n (.slice a l.length cap)):=by
 refine ⟨_,⟨k,o,s,n,l⟩,rfl,?_,hp,hs.set5 hg _ _ _ _ _,hw.set5 (Nat.le_refl _) _ _ _ _ _⟩
 rw [RepN]
 refine ⟨a,cap,rfl,hl,RepNL.to (fun b hb => ⟨⟨by omega,by rw [set5_size];exact hb.2⟩,set5_block (by omega) _ _ _ _ _⟩) _ _ hr⟩
set_option maxHeartbeats 4000000 in
theorem expr_bad_r (h:Rp w g len T wd st) (h0:st.e ≠ 0) (lv:Int) (rd:Rdr) (hrd:GoodR rd):Calls Tryz.prog 64 #[.pointer (some ⟨g,0,none⟩),.int .i64 lv] w (RNode w g len T wd (rd st)):=by
 have HR:=hide (h.as (hrd st h.nv) h0)
 have hb:=(hrd st h.nv).bad h0
 have HB:Hd ((rd st).2.e ≠ 0):=by rw [Hd,hb.1];exact h0
 have he3:(st.e != 0) = true:=by simp [h0]
 have he2:(st.e == 0) = false:=by simpa using h0
 obtain ⟨V,i,pl,dp,h1,-⟩:=h.ex
 obtain ⟨c0,c1,c2,c3,c4,c5,c6,zf⟩:=rp_c h1
 have hg:=h.lt
 have XW:Hd (Gr g w (w.alloc (nodO 0 0 ⟨#[]⟩ 0 (.slice none 0 0)))):=Gr.of (Ext.alloc _ _)
 have HR2:=hide ((unhide HR).ext (Ext.alloc _ (nodO 0 0 ⟨#[]⟩ 0 (.slice none 0 0))))
 clear h1 h h0 hb hrd
 go_enter Tryz.func64,Tryz.ntmps64
 go_wp2
 exact bodyPost_ret (v:=nodV 0 0 ⟨#[]⟩ 0 (.slice none 0 0)) (by simp [results,Tryz.results64,go_sem]) rfl ⟨_,nodeZ,rfl,repZ _ _,fun e => absurd e (unhide HB),unhide HR2,unhide XW⟩
end Go.Proofs.YtgkdmgndebifiaaGreatDoor
namespace Go.Proofs.YtgkdmgndebifiaaGreatDoor
open Go.RowKit
variable {w w':World} {g len:Nat} {T:List Tk} {wd:Int} {st:PS}
theorem oper_1 (st:PS):st.oper 1 = if st.isS ⟨#[124,124]⟩ then some ⟨⟨#[124,124]⟩,1,13,0⟩ else none:=by
 unfold PS.oper atLv
 by_cases hk:(hdT st.ts 0).k = 6
 ·rw [if_pos hk]
  have hs:∀ s,st.isS s = (s.toList == (hdT st.ts 0).t.toList):=fun s => by
   unfold PS.isS isT
   rw [hk,BEq.comm (a:=s.toList)]
   rfl
  simp only [hs,oprs,opHit,List.find?]
  simp
  repeat' split
  all_goals simp_all
 ·rw [if_neg hk]
  have hs:∀ s,st.isS s = false:=fun s => by
   unfold PS.isS isT
   have:((hdT st.ts 0).k == 6) = false:=by simpa using hk
   rw [this];rfl
  simp [hs]
theorem oper_2 (st:PS):st.oper 2 = if st.isS ⟨#[38,38]⟩ then some ⟨⟨#[38,38]⟩,2,12,0⟩ else none:=by
 unfold PS.oper atLv
 by_cases hk:(hdT st.ts 0).k = 6
 ·rw [if_pos hk]
  have hs:∀ s,st.isS s = (s.toList == (hdT st.ts 0).t.toList):=fun s => by
   unfold PS.isS isT
   rw [hk,BEq.comm (a:=s.toList)]
   rfl
  simp only [hs,oprs,opHit,List.find?]
  simp
  repeat' split
  all_goals simp_all
 ·rw [if_neg hk]
  have hs:∀ s,st.isS s = false:=fun s => by
   unfold PS.isS isT
   have:((hdT st.ts 0).k == 6) = false:=by simpa using hk
   rw [this];rfl
  simp [hs]
theorem oper_7 (st:PS):st.oper 7 = if st.isS ⟨#[91]⟩ then some ⟨⟨#[91]⟩,7,11,12⟩ else none:=by
 unfold PS.oper atLv
 by_cases hk:(hdT st.ts 0).k = 6
 ·rw [if_pos hk]
  have hs:∀ s,st.isS s = (s.toList == (hdT st.ts 0).t.toList):=fun s => by
   unfold PS.isS isT
   rw [hk,BEq.comm (a:=s.toList)]
   rfl
  simp only [hs,oprs,opHit,List.find?]
  simp
  repeat' split
  all_goals simp_all
 ·rw [if_neg hk]
  have hs:∀ s,st.isS s = false:=fun s => by
   unfold PS.isS isT
   have:((hdT st.ts 0).k == 6) = false:=by simpa using hk
   rw [this];rfl
  simp [hs]
theorem oper_6 (st:PS):st.oper 6 = if st.isS ⟨#[45]⟩ then some ⟨⟨#[45]⟩,6,14,15⟩ else if st.isS ⟨#[33]⟩ then some ⟨⟨#[33]⟩,6,14,16⟩ else none:=by
 unfold PS.oper atLv
 by_cases hk:(hdT st.ts 0).k = 6
 ·rw [if_pos hk]
  have hs:∀ s,st.isS s = (s.toList == (hdT st.ts 0).t.toList):=fun s => by
   unfold PS.isS isT
   rw [hk,BEq.comm (a:=s.toList)]
   rfl
  simp only [hs,oprs,opHit,List.find?]
  simp
  repeat' split
  all_goals simp_all
 ·rw [if_neg hk]
  have hs:∀ s,st.isS s = false:=fun s => by
   unfold PS.isS isT
   have:((hdT st.ts 0).k == 6) = false:=by simpa using hk
   rw [this];rfl
  simp [hs]
def sgL (lv:Nat):List ByteArray:=match lv with
 | 3 => [⟨#[61,61]⟩,⟨#[33,61]⟩,⟨#[60]⟩,⟨#[60,61]⟩,⟨#[62]⟩,⟨#[62,61]⟩]
 | 4 => [⟨#[43]⟩,⟨#[45]⟩]
 | 5 => [⟨#[42]⟩,⟨#[47]⟩,⟨#[37]⟩]
 | _ => []
def sgF (lv:Nat):Int:=match lv with
 | 3 => 6
 | 4 => 1
 | 5 => 3
 | _ => 0
def sgFind (st:PS) (lv:Nat):Nat → List ByteArray → Option Opr
 | _,[] => none
 | j,s :: r => if st.isS s then some ⟨s,lv,11,sgF lv + j⟩ else sgFind st lv (j + 1) r
theorem oper_sg (st:PS) (lv:Nat) (h:lv = 3 ∨ lv = 4 ∨ lv = 5):st.oper lv = sgFind st lv 0 (sgL lv):=by
 unfold PS.oper atLv
 by_cases hk:(hdT st.ts 0).k = 6
 ·rw [if_pos hk]
  have hs:∀ s,st.isS s = (s.toList == (hdT st.ts 0).t.toList):=fun s => by
   unfold PS.isS isT
   rw [hk,BEq.comm (a:=s.toList)]
   rfl
  rcases h with rfl | rfl | rfl
  all_goals
   simp only [sgL,sgFind,hs,oprs,opHit,List.find?,sgF]
   simp
   repeat' split
   all_goals simp_all
 ·rw [if_neg hk]
  have hs:∀ s,st.isS s = false:=fun s => by
   unfold PS.isS isT
   have:((hdT st.ts 0).k == 6) = false:=by simpa using hk
   rw [this];rfl
  rcases h with rfl | rfl | rfl <;> simp [sgL,sgFind,hs]
def opN (o:Option Opr):Int:=match o with
 | some z => z.o
 | none => 0
end Go.Proofs.YtgkdmgndebifiaaGreatDoor
