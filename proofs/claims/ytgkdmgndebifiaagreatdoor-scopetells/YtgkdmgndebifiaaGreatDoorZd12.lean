/- What no literal is,in the document's own reader. -/
import Derived.Test.YtgkdmgndebifiaaGreatDoorZd11
set_option linter.unusedSimpArgs false
set_option linter.unusedVariables false
set_option maxRecDepth 10000
namespace Go.Proofs.YtgkdmgndebifiaaGreatDoor
open Go.RowKit
variable {w w':World} {g len:Nat} {T:List Tk} {wd:Int} {st:PS}
theorem noS {st:PS} (h:(hdT st.ts 0).k ≠ 6) (s:ByteArray):st.isS s = false:=by
 unfold PS.isS isT
 have:((hdT st.ts 0).k == 6) = false:=by simpa using h
 rw [this];rfl
theorem noW {st:PS} (h:(hdT st.ts 0).k ≠ 2) (s:ByteArray):st.isW s = false:=by
 unfold PS.isW isT
 have:((hdT st.ts 0).k == 2) = false:=by simpa using h
 rw [this];rfl
theorem noC {st:PS} (h:(hdT st.ts 0).k ≠ 1):st.isCall = false:=by
 unfold PS.isCall
 have:((hdT st.ts 0).k == 1) = false:=by simpa using h
 rw [this];rfl
theorem Rp.step2 (h:Rp w g len T wd st) (h0:st.e = 0) {x y:Tk} {r:List Tk} (hts:st.ts = x :: y :: r):∃ i:Nat,w.cell? ⟨g,1,none⟩ = some (.int .i64 (i:Int)) ∧ i < 4001 ∧
  ∀ W,Gr g w W → W.heap[g]? = w.heap[g]? → Rp (W.setCell ⟨g,1,none⟩ (.int .i64 ((i:Int) + 2))) g len T wd st.next.next:=by
 obtain ⟨V,i,pl,dp,h1,h2,h3,h4,h5⟩:=h.ex
 obtain ⟨h6,rfl⟩:=h4 h0
 have htl:=h.tl
 have hi:i + 1 < T.length:=by
  have:=congrArg List.length (h6.trans hts)
  rw [List.length_drop] at this
  simp at this
  omega
 have hn1:=(next_kp h.nv)
 have hn2:=(next_kp (hn1.nv h.nv))
 refine ⟨i,rowC h1 1 rfl,by omega,fun W k hg => ?_⟩
 have r2:=row_set (hg.trans h1) 1 (.int .i64 ((i:Int) + 2))
 refine ⟨⟨V,i + 2,pl,st.op,r2,?_,by omega,fun _ => ⟨?_,rfl⟩,fun e => absurd h0 e⟩,hn2.nv (hn1.nv h.nv),h.tk,h.tl⟩
 ·exact h2.on (k.set (p:=⟨g,1,none⟩) (Or.inr rfl) _)
 ·show T.drop (i + 2) = st.ts.tail.tail
  rw [← h6,List.tail_drop,List.tail_drop]
theorem rlist_end {w5 W6:World} {r:PN × PS} {k o n:Int} {s:ByteArray} {a:Option Addr} {cap:Nat} {ps:List PN} {nb:Obj} {b0:Nat} (hg:g < w.heap.size) (hz5:w.heap.size < b0) (hz6:W6.heap.size = w5.heap.size) (hS6:Rp W6 g len T wd r.2) (hG5:Gr g w w5) (hG56:Gr g w5 W6) (hc:ps.length ≤ cap) (hl:RepNL w5 (Fr b0 w5.heap.size) ps a) (hb0:w.heap.size < w5.heap.size) (hp:r.2.e = 0 → (⟨k,o,s,n,ps⟩:PN) = r.1) :
  RNode w g len T wd r (.returned (nodV k o s n (.slice a ps.length cap))) ((set5 W6 w.heap.size k o s n (.slice a ps.length cap)).alloc nb):=by
 rw [set5_alloc (by omega)]
 have hzz:(W6.alloc nb).heap.size = w5.heap.size + 1:=by rw [size_alloc,hz6]
 refine rnode_end hg (hS6.ext (Ext.alloc _ nb)) ((hG5.trans hG56).trans (Gr.of (Ext.alloc _ nb))) hc (RepNL.to (fun b hb => ?_) _ _ hl) hp
 have h1:=hb.1
 have h2:=hb.2
 exact ⟨⟨by omega,by omega⟩,((Ext.alloc W6 nb).block b (by omega)).trans (hG56.block b h2 (by omega))⟩
end Go.Proofs.YtgkdmgndebifiaaGreatDoor
