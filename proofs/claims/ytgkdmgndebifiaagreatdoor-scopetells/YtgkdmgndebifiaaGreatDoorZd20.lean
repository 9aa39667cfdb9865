/- Expressions: all who read them,tied together. · The small readers of statements. · A row of trees under way whose slice lies in a variable of the call's own;a region whose ways out are normal. · What holds of the loop of a block,in the document's own reader. -/
import Derived.Test.YtgkdmgndebifiaaGreatDoorZd18
import Derived.Test.YtgkdmgndebifiaaGreatDoorZd19
import Derived.Test.YtgkdmgndebifiaaGreatDoorZd6
import Derived.Test.YtgkdmgndebifiaaGreatDoorZd17
set_option linter.unusedSimpArgs false
set_option linter.unusedVariables false
set_option maxRecDepth 10000
namespace Go.Proofs.YtgkdmgndebifiaaGreatDoor
open Go.RowKit
abbrev RdIs (g len:Nat) (fid:FuncId) (r:Rdr) (f:Nat):Prop:=∀ (st:PS) (W:World),st.ts.length < f → Rs W g len st → Calls Tryz.prog fid #[.pointer (some ⟨g,0,none⟩)] W (Tree g len W (r st))
theorem RdIs.ex {g len:Nat} {fid:FuncId} {r:Rdr} {f:Nat} (h:RdIs g len fid r f) (st:PS) (w:World) (hl:st.ts.length < f):ExIs g len fid r st w:=fun W _ hR => h st W hl hR
theorem enter_next_lt {st:PS} (len:Nat) (h:st.ts ≠ []):(st.enter len).next.ts.length < st.ts.length:=by
 have h1:=enter_le st len
 have h4:(st.enter len).next.ts.length = (st.enter len).ts.length - 1:=by simp [PS.next]
 have:=List.length_pos_iff.2 h
 omega
theorem enter_sign_lt {st:PS} (len:Nat) (s:ByteArray) (h:st.ts ≠ []):((st.enter len).sign len s).ts.length < st.ts.length:=by
 have h0:=List.length_pos_iff.2 h
 have h1:=psign_le (st.enter len) len s
 by_cases e:(st.enter len).ts = []
 ·rw [e] at h1;simp at h1;rw [h1];exact h0
 ·exact Nat.lt_of_lt_of_le (psign_lt len s e) (enter_le st len)
theorem enter_name_lt {st:PS} (len:Nat) (h:st.ts ≠ []):((st.enter len).name len).2.ts.length < st.ts.length:=by
 have h0:=List.length_pos_iff.2 h
 have h1:=name_le (st.enter len) len
 by_cases e:(st.enter len).ts = []
 ·rw [e] at h1;simp at h1;rw [h1];exact h0
 ·exact Nat.lt_of_lt_of_le (name_lt len e) (enter_le st len)
theorem brIs {g len f:Nat} {ex:Rdr} (h:RdIs g len 107 ex f) (c:ByteArray) (st:PS) (W:World) (hne:st.ts ≠ []) (hl:st.ts.length < f + 1) (hR:Rs W g len st) :
  Calls Tryz.prog 148 #[.pointer (some ⟨g,0,none⟩),.string c] W (Tree g len W (inBrP len ex c st)) :=
 inBr_any len g ex st c W hR (h.ex _ _ (by have:=enter_next_lt len hne;omega))
theorem sglIs {g len f:Nat} {ex:Rdr} (hf:f < 100000) (hsh:Shorter ex) (h:RdIs g len 107 ex f):RdIs g len 147 (sglP len ex (f + 1)) (f + 1):=by
 intro st W hl hR
 refine sgl_any len g ex (f + 1) st W hR (fun hb W' _ hR' => brIs h _ st W' (isS_ne hb) hl hR') (fun hb W' _ hR' => ?_) (fun hb W' _ hR' => ?_)
 ·have h1:=enter_sign_lt len ⟨#[91]⟩ (isS_ne hb)
  exact list_any len g ex (f + 1) st W' hR' (fun W2 _ hR2 => ops_any len g ex (f + 1) ⟨#[93]⟩ _ W2 hR2 (by omega) (by omega) hsh (fun s hs => h.ex s _ (by omega)))
 ·have h1:=enter_name_lt len (isCall_ne hb)
  have h2:=psign_le ((st.enter len).name len).2 len ⟨#[40]⟩
  exact call_any len g ex (f + 1) st W' hR' (fun W2 _ hR2 => ops_any len g ex (f + 1) ⟨#[41]⟩ _ W2 hR2 (by omega) (by omega) hsh (fun s hs => h.ex s _ (by omega)))
theorem idxIs {g len f:Nat} {ex:Rdr} (hf:f < 100000) (hsh:Shorter ex) (h:RdIs g len 107 ex f):RdIs g len 141 (idxP len ex (f + 1)) (f + 1):=fun st W hl hR =>
 idx_any len g ex (f + 1) st W hR hl hsh (fun W' _ hR' => sglIs hf hsh h st W' hl hR') (sgl_le hsh _ st) (fun s hs hne W' _ hR' => brIs h _ s W' hne (by omega) hR')
theorem sgnIs {g len f:Nat} {sg ex:Rdr} (hf:f < 100000) (hsh:Shorter ex) (hs:RdIs g len 136 sg f) (h:RdIs g len 107 ex f):RdIs g len 136 (sgnP len sg ex (f + 1)) (f + 1):=fun st W hl hR =>
 sgn_any len g sg ex (f + 1) st W hR (fun _ W' _ hR' => idxIs hf hsh h st W' hl hR') (fun hb => hs.ex _ _ (by have:=enter_next_lt len (oper_some_ne hb);omega))
theorem levels {g len f:Nat} {sg:Rdr} (hsh:Shorter sg) (h:RdIs g len 136 sg f):RdIs g len 107 (orP sg f) f:=by
 have h5:RdIs g len 134 (prdP sg f) f:=fun st W hl hR => lev5_any len g sg f st W hR hl hsh (fun s hs => h.ex s W (by omega))
 have h4:RdIs g len 131 (sumP sg f) f:=fun st W hl hR => lev4_any len g (prdP sg f) f st W hR hl (prd_le hsh f) (fun s hs => h5.ex s W (by omega))
 have h3:RdIs g len 125 (cmpP (sumP sg f)) f:=fun st W hl hR => cmp_any len g (sumP sg f) st W hR (sum_le hsh f) (fun s hs => h4.ex s W (by omega))
 have h2:RdIs g len 116 (botP sg f) f:=fun st W hl hR => lev2_any len g (cmpP (sumP sg f)) f st W hR hl (cmp_le (sum_le hsh f)) (fun s hs => h3.ex s W (by omega))
 exact fun st W hl hR => lev1_any len g (botP sg f) f st W hR hl (bot_le hsh f) (fun s hs => h2.ex s W (by omega))
theorem both_one (len f:Nat):(bothP len (f + 1)).1 = sgnP len (bothP len f).1 (bothP len f).2 (f + 1):=by rw [bothP]
theorem both_two (len f:Nat):(bothP len (f + 1)).2 = orP (sgnP len (bothP len f).1 (bothP len f).2 (f + 1)) (f + 1):=by rw [bothP]
theorem ex_all (g len B:Nat) (hB:B = 100000) (f:Nat):f ≤ B → RdIs g len 136 (bothP len f).1 f ∧ RdIs g len 107 (bothP len f).2 f:=by
 induction f with
 | zero => exact fun _ => ⟨fun st W hl _ => absurd hl (Nat.not_lt_zero _),fun st W hl _ => absurd hl (Nat.not_lt_zero _)⟩
 | succ f ih =>
  intro hf
  obtain ⟨h1,h2⟩:=ih (by omega)
  obtain ⟨s1,s2⟩:=both_le len f
  have hs:=sgnIs (by omega) s2 h1 h2
  have he:=levels (sg:=sgnP len (bothP len f).1 (bothP len f).2 (f + 1)) (sgn_le s1 s2 _) hs
  rw [both_one,both_two]
  exact ⟨hs,he⟩
theorem exIs (g len f:Nat) (hf:f ≤ 100000):RdIs g len 107 (exP len f) f:=by
 have h:=(ex_all g len 100000 rfl f hf).2
 unfold exP
 exact h
end Go.Proofs.YtgkdmgndebifiaaGreatDoor
namespace Go.Proofs.YtgkdmgndebifiaaGreatDoor
open Go.RowKit
set_option maxHeartbeats 2000000 in
theorem plain_any (len g:Nat) (k:Int) (st:PS) (w:World) (hS:St w g len st) :
  Calls Tryz.prog 108 #[.pointer (some ⟨g,0,none⟩),.int .i64 k] w (Tree g len w (plainP len k st)):=by
 have hg:g < w.heap.size:=hS.lt
 unfold plainP
 have HG:=hide (fun W (x:Ext w W) => psign_any len g st ⟨#[59]⟩ W (hS.ext x))
 clear hS
 go_enter Tryz.func108,Tryz.ntmps108
 go_wp2_with (go_at_call 59;refine Calls.mono (unhide HG _ (Ext.alloc _ _)) ?_;rintro e w2 ⟨rfl,hs,hw⟩;have RD:=hide (hw.row (Go.heap_alloc_new w _) (by omega));have r0:=rowC (unhide RD) 0 rfl;have r1:=rowC (unhide RD) 1 rfl;have r2:=rowC (unhide RD) 2 rfl;have r3:=rowC (unhide RD) 3 rfl;have r4:=rowC (unhide RD) 4 rfl;have rz:=rowF (unhide RD);have S3:=hide hs;have X3:=hide ((Gr.of (Ext.alloc w _)).trans hw);clear hw hs)
 exact bodyPost_ret (v:=nodV k 0 emptyB 0 (.slice none 0 0)) (by simp [results,Tryz.results108,go_sem,r0,r1,r2,r3,r4]) rfl (tree_end (l:=[]) hg (unhide S3) (unhide X3) (Nat.zero_le _) (by simp [RepNL]))
set_option maxHeartbeats 4000000 in
theorem ofEx_any (len g:Nat) (ex:Rdr) (kd:Int) (st:PS) (w:World) (hR:Rs w g len st) (hex:ExIs g len 107 ex st w) :
  Calls Tryz.prog 110 #[.pointer (some ⟨g,0,none⟩),.int .i64 kd] w (Tree g len w (ofExP len ex kd st)):=by
 have hg:g < w.heap.size:=hR.st.lt
 unfold ofExP
 have HX:=hide hex
 unfold ExIs at HX
 clear hex
 generalize ex st = q at HX
 obtain ⟨⟨k,o,s,n,l⟩,st3⟩:=q
 have HG:=hide (fun W (x:St W g len st3) => psign_any len g st3 ⟨#[59]⟩ W x)
 have HR:=hide hR
 clear hR
 go_enter Tryz.func110,Tryz.ntmps110
 go_wp2_with (first
  | (go_at_call 107;refine Calls.mono (unhide HX _ (Gr.of (Ext.alloc _ _)) ((unhide HR).alloc _)) ?_;rintro e w1 ⟨v,rfl,hr,hs,hw⟩;rw [RepN] at hr;obtain ⟨a,cap,rfl,hcap,hl⟩:=hr;have RB:=hide (hw.row (Go.heap_alloc_new w _) (by omega));have S1:=hide hs;have L1:=hide hl;have X1:=hide ((Gr.of (Ext.alloc _ _)).trans hw);have hlt1:w.heap.size < w1.heap.size:=(Array.getElem?_eq_some_iff.1 (unhide RB)).1;clear hw hs hl)
  | (go_at_call 59;refine Calls.mono (unhide HG _ (((unhide S1).alloc _).alloc _)) ?_;rintro e w2 ⟨rfl,hs,hw⟩;have RC:=hide (hw.row ((Ext.alloc _ _).row ((Ext.alloc _ _).row (unhide RB))) (by omega));have RI:=hide (hw.row ((Ext.alloc _ _).row (Go.heap_alloc_new w1 _)) (by omega));have RN:=hide (hw.row (Go.heap_alloc_new (w1.alloc _) _) (by simp;omega));have r0:=rowC (unhide RC) 0 rfl;have r1:=rowC (unhide RC) 1 rfl;have r2:=rowC (unhide RC) 2 rfl;have r3:=rowC (unhide RC) 3 rfl;have r4:=rowC (unhide RC) 4 rfl;have rz:=rowF (unhide RC);have d0:=rowC (unhide RN) 0 rfl;have d1:=rowC (unhide RN) 1 rfl;have d2:=rowC (unhide RN) 2 rfl;have d3:=rowC (unhide RN) 3 rfl;have d4:=rowC (unhide RN) 4 rfl;simp only [size_alloc] at d0 d1 d2 d3 d4;have S2:=hide hs;have G2:=hide ((Gr.of ((Ext.alloc _ _).trans (Ext.alloc _ _))).trans hw);have X2:=hide ((unhide X1).trans (unhide G2));have hlt2:w1.heap.size < w2.heap.size:=(Array.getElem?_eq_some_iff.1 (unhide RI)).1;clear hw hs))
 have L2:RepNL w2 (fun b => w.heap.size < b ∧ b < w2.heap.size) l a:=(unhide L1).gr (unhide G2) (by simp;omega) (by simp)
 have T2:=tree_end (l:=[⟨k,o,s,n,l⟩]) hg (unhide S2) (unhide X2) (Nat.le_refl 1) (one_rep (F:=fun b => w.heap.size < b ∧ b < w2.heap.size) (unhide RI) ⟨hlt1,hlt2⟩ hcap L2) (k:=kd) (o:=0) (n:=0) (s:=emptyB)
 exact bodyPost_ret (v:=nodV kd 0 emptyB 0 (.slice (some ⟨w1.heap.size,0,none⟩) 1 1)) (by simp [results,Tryz.results110,go_sem,r0,r1,r2,r3,r4]) rfl T2
set_option maxHeartbeats 4000000 in
theorem answer_any (len g:Nat) (ex:Rdr) (st:PS) (w:World) (hR:Rs w g len st) (hex:ExIs g len 107 ex st w) :
  Calls Tryz.prog 109 #[.pointer (some ⟨g,0,none⟩)] w (Tree g len w (answerP len ex st)):=by
 have hg:g < w.heap.size:=hR.st.lt
 unfold answerP
 have HS:=hide (fun W (x:Ext w W) => isSign_any len g st ⟨#[59]⟩ W (hR.st.ext x))
 have HP:=hide (fun W (x:Ext w W) => plain_any len g 7 st W (hR.st.ext x))
 have HO:=hide (fun W (x:Ext w W) => ofEx_any len g ex 7 st W (hR.ext x) (fun W' x' h => hex W' ((Gr.of x).trans x') h))
 clear hR hex
 cases hb:st.isS ⟨#[59]⟩
 ·rw [if_neg (by decide)]
  rw [hb] at HS
  generalize ofExP len ex 7 st = q at HO
  obtain ⟨⟨k,o,s,n,l⟩,st3⟩:=q
  go_enter Tryz.func109,Tryz.ntmps109
  go_wp2_with (first
   | (go_at_call 86;refine Calls.mono (unhide HS _ (Ext.alloc w _)) ?_;rintro e w1 ⟨rfl,hw⟩;have RB:=hide (hw.row (Go.heap_alloc_new w _));have X1:=hide ((Ext.alloc _ _).trans hw);have hlt1:w.heap.size < w1.heap.size:=(Array.getElem?_eq_some_iff.1 (unhide RB)).1;clear hw)
   | (go_at_call 110;refine Calls.mono (unhide HO _ (unhide X1)) ?_;rintro e w2 ⟨v,rfl,hr,hs,hw⟩;rw [RepN] at hr;obtain ⟨a,cap,rfl,hcap,hl⟩:=hr;have RD:=hide (hw.row (unhide RB) (by omega));have r0:=rowC (unhide RD) 0 rfl;have r1:=rowC (unhide RD) 1 rfl;have r2:=rowC (unhide RD) 2 rfl;have r3:=rowC (unhide RD) 3 rfl;have r4:=rowC (unhide RD) 4 rfl;have rz:=rowF (unhide RD);have S3:=hide hs;have L3:=hide hl;have X3:=hide ((Gr.of (unhide X1)).trans hw);clear hw hs hl))
  exact bodyPost_ret (v:=nodV k o s n (.slice a l.length cap)) (by simp [results,Tryz.results109,go_sem,r0,r1,r2,r3,r4]) rfl (tree_end hg (unhide S3) (unhide X3) hcap ((unhide L3).gr (Gr.refl g _) (by omega) (by omega)) (k:=k) (o:=o) (n:=n) (s:=s))
 ·rw [if_pos rfl]
  rw [hb] at HS
  generalize plainP len 7 st = q at HP
  obtain ⟨⟨k,o,s,n,l⟩,st3⟩:=q
  go_enter Tryz.func109,Tryz.ntmps109
  go_wp2_with (first
   | (go_at_call 86;refine Calls.mono (unhide HS _ (Ext.alloc w _)) ?_;rintro e w1 ⟨rfl,hw⟩;have RB:=hide (hw.row (Go.heap_alloc_new w _));have X1:=hide ((Ext.alloc _ _).trans hw);have hlt1:w.heap.size < w1.heap.size:=(Array.getElem?_eq_some_iff.1 (unhide RB)).1;clear hw)
   | (go_at_call 108;refine Calls.mono (unhide HP _ (unhide X1)) ?_;rintro e w2 ⟨v,rfl,hr,hs,hw⟩;rw [RepN] at hr;obtain ⟨a,cap,rfl,hcap,hl⟩:=hr;have RD:=hide (hw.row (unhide RB) (by omega));have r0:=rowC (unhide RD) 0 rfl;have r1:=rowC (unhide RD) 1 rfl;have r2:=rowC (unhide RD) 2 rfl;have r3:=rowC (unhide RD) 3 rfl;have r4:=rowC (unhide RD) 4 rfl;have rz:=rowF (unhide RD);have S3:=hide hs;have L3:=hide hl;have X3:=hide ((Gr.of (unhide X1)).trans hw);clear hw hs hl))
  exact bodyPost_ret (v:=nodV k o s n (.slice a l.length cap)) (by simp [results,Tryz.results109,go_sem,r0,r1,r2,r3,r4]) rfl (tree_end hg (unhide S3) (unhide X3) hcap ((unhide L3).gr (Gr.refl g _) (by omega) (by omega)) (k:=k) (o:=o) (n:=n) (s:=s))
set_option maxHeartbeats 4000000 in
theorem named_any (len g:Nat) (ex:Rdr) (kd:Int) (st:PS) (w:World) (hR:Rs w g len st) (hex:ExIs g len 107 ex ((st.name len).2.sign len ⟨#[61]⟩) w) :
  Calls Tryz.prog 104 #[.pointer (some ⟨g,0,none⟩),.int .i64 kd] w (Tree g len w (namedP len ex kd st)):=by
 have hg:g < w.heap.size:=hR.st.lt
 unfold namedP
 have HN:=hide (fun W (x:St W g len st) => name_p len g st W x)
 have HG:=hide (fun W (x:St W g len (st.name len).2) => psign_any len g (st.name len).2 ⟨#[61]⟩ W x)
 have HO:=hide (fun W (x:Gr g w W) (y:Rs W g len ((st.name len).2.sign len ⟨#[61]⟩)) => ofEx_any len g ex kd _ W y (fun W' x' h => hex W' (x.trans x') h))
 have HR:=hide hR
 clear hR hex
 have hq:(ofExP len ex kd ((st.name len).2.sign len ⟨#[61]⟩)).1 = ⟨kd,0,emptyB,0,(ofExP len ex kd ((st.name len).2.sign len ⟨#[61]⟩)).1.l⟩:=rfl
 generalize (st.name len).1 = nm at HN ⊢
 generalize ofExP len ex kd ((st.name len).2.sign len ⟨#[61]⟩) = q at HO hq ⊢
 obtain ⟨⟨k,o,s,n,l⟩,st3⟩:=q
 injection hq with e1 e2 e3 e4 e5
 subst e1 e2 e3 e4
 clear e5
 go_enter Tryz.func104,Tryz.ntmps104
 go_wp2_with (first
  | (go_at_call 58;refine Calls.mono (unhide HN _ ((unhide HR).st.alloc _)) ?_;rintro e w1 ⟨rfl,hs,hw⟩;have RB:=hide (hw.row (Go.heap_alloc_new w _) (by omega));have S1:=hide hs;have X1:=hide ((Gr.of (Ext.alloc _ _)).trans hw);clear hw hs)
  | (go_at_call 59;refine Calls.mono (unhide HG _ (unhide S1)) ?_;rintro e w2 ⟨rfl,hs,hw⟩;have RC:=hide (hw.row (unhide RB) (by omega));have S2:=hide hs;have X2:=hide ((unhide X1).trans hw);have hlt2:w.heap.size < w2.heap.size:=(Array.getElem?_eq_some_iff.1 (unhide RC)).1;clear hw hs)
  | (go_at_call 110;refine Calls.mono (unhide HO _ (unhide X2) ((unhide HR).go (unhide X2) (unhide S2))) ?_;rintro e w3 ⟨v,rfl,hr,hs,hw⟩;rw [RepN] at hr;obtain ⟨a,cap,rfl,hcap,hl⟩:=hr;have RD:=hide (hw.row (unhide RC) (by omega));have r0:=rowC (unhide RD) 0 rfl;have r1:=rowC (unhide RD) 1 rfl;have r2:=rowC (unhide RD) 2 rfl;have r3:=rowC (unhide RD) 3 rfl;have r4:=rowC (unhide RD) 4 rfl;have rz:=rowF (unhide RD);have S3:=hide hs;have L3:=hide hl;have X3:=hide ((unhide X2).trans hw);have hlt3:w.heap.size < w3.heap.size:=(Array.getElem?_eq_some_iff.1 (unhide RD)).1;clear hw hs hl))
 have T3:=tree_end hg (unhide S3) (unhide X3) hcap ((unhide L3).gr (Gr.refl g _) (by omega) (by omega)) (k:=k) (o:=0) (n:=0) (s:=nm)
 have e0:=set5_past (unhide RD) k 0 nm 0 (.slice a l.length cap) 0 _ rfl
 have e1:=set5_past (unhide RD) k 0 nm 0 (.slice a l.length cap) 1 _ rfl
 have e2:=set5_past (unhide RD) k 0 nm 0 (.slice a l.length cap) 2 _ rfl
 have e3:=set5_past (unhide RD) k 0 nm 0 (.slice a l.length cap) 3 _ rfl
 have e4:=set5_past (unhide RD) k 0 nm 0 (.slice a l.length cap) 4 _ rfl
 exact bodyPost_ret (v:=nodV k 0 nm 0 (.slice a l.length cap)) (by simp [results,Tryz.results104,go_sem,e0,e1,e2,e3,e4]) rfl (T3.gr hg (Gr.of (Ext.alloc _ _)) (((unhide S3).set5 hg _ _ _ _ _).alloc _))
set_option maxHeartbeats 1000000 in
theorem isSet_any (len g:Nat) (st:PS) (w:World) (hS:St w g len st) :
  Calls Tryz.prog 105 #[.pointer (some ⟨g,0,none⟩)] w fun e w' => e = .returned (.bool st.isSet) ∧ Ext w w':=by
 have HA:=hide (fun W (x:Ext w W) => ahead_any len g st 0 0 rfl W (hS.ext x))
 have HB:=hide (fun W (x:Ext w W) => ahead_any len g st 1 1 rfl W (hS.ext x))
 unfold PS.isSet isT
 clear hS
 generalize hdT st.ts 0 = y at *
 generalize hdT st.ts 1 = z at *
 cases hk:(y.k == 1)
 ·go_enter Tryz.func105,Tryz.ntmps105
  go_wp2_with (go_at_call 83;refine Calls.mono (unhide HA _ (Ext.refl _)) ?_;rintro e w1 ⟨rfl,hw⟩;have X:=hide hw;clear hw)
  go_ret
  exact ⟨rfl,unhide X⟩
 ·go_enter Tryz.func105,Tryz.ntmps105
  go_wp2_with (first
   | (have G:=unhide Y;clear G;go_at_call 103;refine Calls.mono (is_any _ _ _ _ _ _ _) ?_;rintro e w3 ⟨rfl,hw⟩;have Z:=hide ((unhide Y).trans hw);clear hw)
   | (have G:=unhide X;clear G;go_at_call 83;refine Calls.mono (unhide HB _ (unhide X)) ?_;rintro e w2 ⟨rfl,hw⟩;have Y:=hide ((unhide X).trans hw);clear hw)
   | (go_at_call 83;refine Calls.mono (unhide HA _ (Ext.refl _)) ?_;rintro e w1 ⟨rfl,hw⟩;have X:=hide hw;clear hw))
  go_ret
  exact ⟨by rw [Bool.true_and,show (⟨#[61]⟩:ByteArray).toList = [61] by simp];rfl,unhide Z⟩
end Go.Proofs.YtgkdmgndebifiaaGreatDoor
namespace Go.Proofs.YtgkdmgndebifiaaGreatDoor
open Go.RowKit
def Nrm (Q:Exit → Act → World → Prop):Exit → Act → World → Prop
 | .normal,a,w => Q .normal a w
 | _,_,_ => False
theorem wp_nrm {P:Program} {c:Code} {Q:Exit → Act → World → Prop} {a:Act} {w:World} (h:c.wp P (Nrm Q) a w):c.wp P Q a w :=
 Code.wp_mono (fun e a w hq => by cases e <;> first | exact hq | exact hq.elim) h
structure HoldB (base:Nat) (wr:World) (ps:List PN) (ao:Option Addr) (cap:Nat):Prop where
 own:∃ xs,wr.ownsRow base 29 5 (.slice ao ps.length cap) ps.length xs ∧ RowN wr (fun b => base ≤ b ∧ b < wr.heap.size ∧ some b ≠ (Value.slice ao ps.length cap).ownBlock) ps xs
theorem HoldB.nil (base:Nat) (wr:World):HoldB base wr [] none 0:=⟨[],World.ownsRow_nil _ _ _ _,rfl⟩
theorem heldB_on {x base:Nat} {wr w2:World} {acc:List PN} {v:Value} {n:Nat} {xs:List Value} (hx:wr.ownsRow base 29 5 v n xs ∧ RowN wr (fun b => base ≤ b ∧ b < wr.heap.size ∧ some b ≠ v.ownBlock) acc xs) (k:Gr x wr w2) (hb:x < base) :
  w2.ownsRow base 29 5 v n xs ∧ RowN w2 (fun b => base ≤ b ∧ b < w2.heap.size ∧ some b ≠ v.ownBlock) acc xs :=
 ⟨own_gr hx.1 k hb,RowN.to (fun b hb => ⟨⟨hb.1,Nat.lt_of_lt_of_le hb.2.1 k.size,hb.2.2⟩,k.block b hb.2.1 (by have:=hb.1;omega)⟩) hx.2⟩
theorem HoldB.on {x base:Nat} {wr w2:World} {ps:List PN} {ao:Option Addr} {cap:Nat} (h:HoldB base wr ps ao cap) (k:Gr x wr w2) (hx:x < base):HoldB base w2 ps ao cap:=by
 obtain ⟨xs,hx2⟩:=h.own
 exact ⟨xs,heldB_on hx2 k hx⟩
theorem HoldB.done {base:Nat} {wr:World} {ps:List PN} {ao:Option Addr} {cap:Nat} (h:HoldB base wr ps ao cap):ps.length ≤ cap ∧ RepNL wr (Fr base wr.heap.size) ps ao:=by
 obtain ⟨xs,ho,hr⟩:=h.own
 obtain ⟨hlen,⟨e,h0⟩ | ⟨b,cap2,cur,e,hb,hrow,hc,_⟩⟩:=id ho
 ·have:ps = []:=List.length_eq_zero_iff.1 h0
  subst this
  exact ⟨Nat.zero_le _,by simp [RepNL]⟩
 ·injection e with e1 e2 e3
  subst e1 e3
  refine ⟨hc,RowN.repL (g:=b) ⟨hb,(Array.getElem?_eq_some_iff.1 hrow).1⟩ (RowN.to (fun x hx => ⟨⟨hx.1,hx.2.1⟩,rfl⟩) hr) (cells_own ho)⟩
theorem below_grown {base:Nat} {w2 w3:World} {e:TypeId} {size n:Nat} {v:Value} {xs:List Value} (hown:w2.ownsRow base e size v n xs) (hgw:w2.grownBy w3 v.ownBlock):∀ k,k < base → k < w2.heap.size → w3.heap[k]? = w2.heap[k]? :=
 fun k hk hk2 => hgw.block k hk2 (fun e => by have:=(hown.lt k e.symm).1;omega)
theorem Gr.append {g base:Nat} {w w2 w3:World} {e:TypeId} {size n:Nat} {v:Value} {xs:List Value} (hgr:Gr g w w2) (hown:w2.ownsRow base e size v n xs) (hb:w.heap.size ≤ base) (hgw:w2.grownBy w3 v.ownBlock):Gr g w w3 :=
 ⟨hgw.os.trans hgr.os,hgw.tape.trans hgr.tape,hgw.output.trans hgr.output,Nat.le_trans hgr.size hgw.size,fun k hk hk2 => (below_grown hown hgw k (by omega) (Nat.lt_of_lt_of_le hk hgr.size)).trans (hgr.block k hk hk2)⟩
theorem St.append {g len base:Nat} {w2 w3:World} {st:PS} {e:TypeId} {size n:Nat} {v:Value} {xs:List Value} (h:St w2 g len st) (hg:g < base) (hown:w2.ownsRow base e size v n xs) (hgw:w2.grownBy w3 v.ownBlock):St w3 g len st:=by
 have hlt:=h.lt
 obtain ⟨T,h1,a,cap,rfl,h3,h4,h5⟩:=h.ex
 have hk:=below_grown hown hgw
 refine ⟨⟨_,(hk g hg hlt).trans h1,a,cap,rfl,h3,h4,?_⟩⟩
 rcases h5 with h5 | ⟨b,off,rfl,hb,hc⟩
 ·exact Or.inl h5
 ·exact Or.inr ⟨b,off,rfl,hb,fun j u hu => by rw [World.cell?_of_block (w:=w2) (hk b (by omega) (by omega))];exact hc j u hu⟩
theorem HoldB.snoc {base:Nat} {w2 w3:World} {ps:List PN} {ao:Option Addr} {cap g' cap':Nat} {p:PN} {a:Option Addr} {c:Nat} {xs:List Value}
  (hx:RowN w2 (fun b => base ≤ b ∧ b < w2.heap.size ∧ some b ≠ (Value.slice ao ps.length cap).ownBlock) ps xs)
  (ho:w3.ownsRow base 29 5 (.slice (some ⟨g',0,none⟩) (ps.length + 1) cap') (ps.length + 1) (xs ++ ndC p a c))
  (hb:p.l.length ≤ c) (hp:RepNL w2 (fun b => base ≤ b ∧ b < w2.heap.size ∧ some b ≠ (Value.slice ao ps.length cap).ownBlock) p.l a)
  (hgw:w2.grownBy w3 (Value.slice ao ps.length cap).ownBlock) (hw:(Value.slice ao ps.length cap).ownBlock = some g' ∨ w2.heap.size ≤ g') :
  HoldB base w3 (ps ++ [p]) (some ⟨g',0,none⟩) cap':=by
 have hlen:(ps ++ [p]).length = ps.length + 1:=by simp
 have hF:∀ b,(base ≤ b ∧ b < w2.heap.size ∧ some b ≠ (Value.slice ao ps.length cap).ownBlock) →
   (base ≤ b ∧ b < w3.heap.size ∧ some b ≠ (Value.slice (some ⟨g',0,none⟩) (ps ++ [p]).length cap').ownBlock) ∧ w3.heap[b]? = w2.heap[b]?:=by
  intro b hb
  refine ⟨⟨hb.1,Nat.lt_of_lt_of_le hb.2.1 hgw.size,?_⟩,hgw.block b hb.2.1 hb.2.2⟩
  intro e
  simp only [Value.ownBlock,Option.some.injEq] at e
  rcases hw with e2 | e2
  ·exact hb.2.2 (by rw [e2,e])
  ·omega
 exact ⟨_,by rw [hlen];exact ho,RowN.snoc hb (RepNL.to hF _ _ hp) (RowN.to hF hx)⟩
structure BlkI (g len:Nat) (sm:Rdr) (w wr:World) (F:List PN × PS) (stc:PS) (k:Nat) (acc:List PN) (ao:Option Addr) (cap:Nat):Prop where
 eq:F = blkLoop sm k acc stc
 fuel:stc.ts.length < k
 bnd:acc.length + stc.ts.length ≤ 100001
 rs:Rs wr g len stc
 gr:Gr g w wr
 r2:wr.heap[w.heap.size]? = some (nodO 0 0 emptyB 0 (.slice none 0 0))
 r3:wr.heap[w.heap.size + 1]? = some (nodO 10 0 emptyB 0 (.slice ao acc.length cap))
 hold:HoldB (w.heap.size + 2) wr acc ao cap
theorem BlkI.snoc {g len:Nat} {sm:Rdr} {w wr w5 w6:World} {F:List PN × PS} {stc st5:PS} {j:Nat} {acc:List PN} {ao:Option Addr} {cap g' cap':Nat} {k o n:Int} {s:ByteArray} {l:List PN} {a:Option Addr} {c:Nat} {xs:List Value}
  {st0:PS} (hR:Rs w g len st0) (h:BlkI g len sm w wr F stc (j + 1) acc ao cap) (hq:F = blkLoop sm j (acc ++ [⟨k,o,s,n,l⟩]) st5) (hl:st5.ts.length < stc.ts.length) (X5:Gr g wr w5) (S5:St w5 g len st5) (hc:l.length ≤ c) (L5:RepNL w5 (Fr wr.heap.size w5.heap.size) l a) (ob:Obj)
  (hx:(w5.alloc ob).ownsRow (w.heap.size + 2) 29 5 (.slice ao acc.length cap) acc.length xs ∧ RowN (w5.alloc ob) (fun b => w.heap.size + 2 ≤ b ∧ b < (w5.alloc ob).heap.size ∧ some b ≠ (Value.slice ao acc.length cap).ownBlock) acc xs)
  (ho:w6.ownsRow (w.heap.size + 2) 29 5 (.slice (some ⟨g',0,none⟩) (acc.length + 1) cap') (acc.length + 1) (xs ++ [.int .i64 k,.int .i64 o,.string s,.int .i64 n,.slice a l.length c]))
  (hgw:(w5.alloc ob).grownBy w6 (Value.slice ao acc.length cap).ownBlock) (hw0:(Value.slice ao acc.length cap).ownBlock = some g' ∨ w5.heap.size + 1 ≤ g') :
  BlkI g len sm w (w6.setCell ⟨w.heap.size + 1,4,none⟩ (.slice (some ⟨g',0,none⟩) (acc.length + 1) cap')) F st5 j (acc ++ [⟨k,o,s,n,l⟩]) (some ⟨g',0,none⟩) cap':=by
 have hg:g < w.heap.size:=hR.st.lt
 have hr3:w.heap.size + 1 < wr.heap.size:=(Array.getElem?_eq_some_iff.1 h.r3).1
 have hsz:=X5.size
 have hw:(Value.slice ao acc.length cap).ownBlock = some g' ∨ (w5.alloc ob).heap.size ≤ g':=by rw [size_alloc];exact hw0
 have hk:=below_grown hx.1 hgw
 have G5:Gr g wr (w5.alloc ob):=X5.alloc ob
 have hz5:(w5.alloc ob).heap.size = w5.heap.size + 1:=size_alloc _ _
 have hp:RepNL (w5.alloc ob) (fun b => w.heap.size + 2 ≤ b ∧ b < (w5.alloc ob).heap.size ∧ some b ≠ (Value.slice ao acc.length cap).ownBlock) l a:=by
  obtain ⟨ys,hy,_⟩:=h.hold.own
  exact RepNL.to (fun b hb => ⟨⟨by have:=hb.1;omega,by have:=hb.2;omega,fun e => by have:=(hy.lt b e.symm).2;have:=hb.1;omega⟩,(Ext.alloc w5 ob).block b hb.2⟩) _ _ L5
 have H6:HoldB (w.heap.size + 2) w6 (acc ++ [⟨k,o,s,n,l⟩]) (some ⟨g',0,none⟩) cap':=HoldB.snoc (p:=⟨k,o,s,n,l⟩) hx.2 ho hc hp hgw hw
 have G6:Gr g w w6:=Gr.append (h.gr.trans G5) hx.1 (by omega) hgw
 have S6:St w6 g len st5:=(S5.alloc ob).append (by omega) hx.1 hgw
 have K6:Gr (w.heap.size + 1) w6 (w6.setCell ⟨w.heap.size + 1,4,none⟩ (.slice (some ⟨g',0,none⟩) (acc.length + 1) cap')):=(Gr.refl _ _).set (p:=⟨w.heap.size + 1,4,none⟩) (Or.inr rfl) _
 have hln:(acc ++ [(⟨k,o,s,n,l⟩:PN)]).length = acc.length + 1:=by simp
 have R3:w6.heap[w.heap.size + 1]? = some (nodO 10 0 emptyB 0 (.slice ao acc.length cap)):=(hk _ (by omega) (by omega)).trans (G5.row h.r3 (by omega))
 have G7:=G6.set (p:=⟨w.heap.size + 1,4,none⟩) (Or.inl (by show w.heap.size ≤ w.heap.size + 1;omega)) (.slice (some ⟨g',0,none⟩) (acc.length + 1) cap')
 have R2:w6.heap[w.heap.size]? = some (nodO 0 0 emptyB 0 (.slice none 0 0)):=(hk _ (by omega) (by omega)).trans (G5.row h.r2 (by omega))
 exact ⟨hq,by have:=h.fuel;omega,by rw [hln];have:=h.bnd;omega,hR.go G7 (S6.set (b:=w.heap.size + 1) (by omega) _ _),G7,row_other R2 (by omega) _ _,by rw [hln];exact row_set R3 4 _,H6.on K6 (by omega)⟩
end Go.Proofs.YtgkdmgndebifiaaGreatDoor
namespace Go.Proofs.YtgkdmgndebifiaaGreatDoor
open Go.RowKit
def BkEq (len:Nat) (sm:Rdr) (F:List PN × PS) (k:Nat) (acc:List PN) (stc:PS):Prop :=
 F = blkLoop sm k acc stc ∨ (stc.e ≠ 0 ∧ (F.2.sign len ⟨#[125]⟩).e = stc.e ∧ (F.2.sign len ⟨#[125]⟩).pl = stc.pl)
structure RBkI (g len:Nat) (T:List Tk) (wd:Int) (sm:Rdr) (w wr:World) (F:List PN × PS) (stc:PS) (k:Nat) (acc ps:List PN) (ao:Option Addr) (cap:Nat):Prop where
 eq:BkEq len sm F k acc stc
 np:stc.e = 0 → ps = acc
 fuel:stc.e = 0 → stc.ts.length < k
 bnd:stc.e = 0 → ps.length + stc.ts.length ≤ 100001
 hg:g < w.heap.size
 rs:Rp wr g len T wd stc
 gr:Gr g w wr
 r2:wr.heap[w.heap.size]? = some (nodO 0 0 emptyB 0 (.slice none 0 0))
 r3:wr.heap[w.heap.size + 1]? = some (nodO 10 0 emptyB 0 (.slice ao ps.length cap))
 hold:HoldB (w.heap.size + 2) wr ps ao cap
theorem Rp.append {g len base:Nat} {T:List Tk} {wd:Int} {w2 w3:World} {st:PS} {e:TypeId} {size n:Nat} {v:Value} {xs:List Value} (h:Rp w2 g len T wd st) (hg:g < base) (hown:w2.ownsRow base e size v n xs) (hgw:w2.grownBy w3 v.ownBlock):Rp w3 g len T wd st:=h.grown hg hown hgw
theorem RBkI.snoc {g len:Nat} {T:List Tk} {wd:Int} {sm:Rdr} {w wr w5 w6:World} {F:List PN × PS} {stc st5:PS} {j:Nat} {acc ps:List PN} {ao:Option Addr} {cap g' cap':Nat} {k o n:Int} {s:ByteArray} {l:List PN} {a:Option Addr} {c:Nat} {xs:List Value} {acc':List PN} {k':Nat}
  (h:RBkI g len T wd sm w wr F stc j acc ps ao cap) (hq:BkEq len sm F k' acc' st5) (hnp:st5.e = 0 → ps ++ [(⟨k,o,s,n,l⟩:PN)] = acc') (hfu:st5.e = 0 → st5.ts.length < k') (hbd:st5.e = 0 → ps.length + 1 + st5.ts.length ≤ 100001) (X5:Gr g wr w5) (S5:Rp w5 g len T wd st5) (hc:l.length ≤ c) (L5:RepNL w5 (Fr wr.heap.size w5.heap.size) l a) (ob:Obj)
  (hx:(w5.alloc ob).ownsRow (w.heap.size + 2) 29 5 (.slice ao ps.length cap) ps.length xs ∧ RowN (w5.alloc ob) (fun b => w.heap.size + 2 ≤ b ∧ b < (w5.alloc ob).heap.size ∧ some b ≠ (Value.slice ao ps.length cap).ownBlock) ps xs)
  (ho:w6.ownsRow (w.heap.size + 2) 29 5 (.slice (some ⟨g',0,none⟩) (ps.length + 1) cap') (ps.length + 1) (xs ++ [.int .i64 k,.int .i64 o,.string s,.int .i64 n,.slice a l.length c]))
  (hgw:(w5.alloc ob).grownBy w6 (Value.slice ao ps.length cap).ownBlock) (hw0:(Value.slice ao ps.length cap).ownBlock = some g' ∨ w5.heap.size + 1 ≤ g') :
  RBkI g len T wd sm w (w6.setCell ⟨w.heap.size + 1,4,none⟩ (.slice (some ⟨g',0,none⟩) (ps.length + 1) cap')) F st5 k' acc' (ps ++ [⟨k,o,s,n,l⟩]) (some ⟨g',0,none⟩) cap':=by
 have hg:=h.hg
 have hr3:w.heap.size + 1 < wr.heap.size:=(Array.getElem?_eq_some_iff.1 h.r3).1
 have hsz:=X5.size
 have hw:(Value.slice ao ps.length cap).ownBlock = some g' ∨ (w5.alloc ob).heap.size ≤ g':=by rw [size_alloc];exact hw0
 have hk:=below_grown hx.1 hgw
 have G5:Gr g wr (w5.alloc ob):=X5.alloc ob
 have hz5:(w5.alloc ob).heap.size = w5.heap.size + 1:=size_alloc _ _
 have hp:RepNL (w5.alloc ob) (fun b => w.heap.size + 2 ≤ b ∧ b < (w5.alloc ob).heap.size ∧ some b ≠ (Value.slice ao ps.length cap).ownBlock) l a:=by
  obtain ⟨ys,hy,_⟩:=h.hold.own
  exact RepNL.to (fun b hb => ⟨⟨by have:=hb.1;omega,by have:=hb.2;omega,fun e => by have:=(hy.lt b e.symm).2;have:=hb.1;omega⟩,(Ext.alloc w5 ob).block b hb.2⟩) _ _ L5
 have H6:HoldB (w.heap.size + 2) w6 (ps ++ [⟨k,o,s,n,l⟩]) (some ⟨g',0,none⟩) cap':=HoldB.snoc (p:=⟨k,o,s,n,l⟩) hx.2 ho hc hp hgw hw
 have G6:Gr g w w6:=Gr.append (h.gr.trans G5) hx.1 (by omega) hgw
 have S6:Rp w6 g len T wd st5:=(S5.ext (Ext.alloc _ ob)).append (by omega) hx.1 hgw
 have K6:Gr (w.heap.size + 1) w6 (w6.setCell ⟨w.heap.size + 1,4,none⟩ (.slice (some ⟨g',0,none⟩) (ps.length + 1) cap')):=(Gr.refl _ _).set (p:=⟨w.heap.size + 1,4,none⟩) (Or.inr rfl) _
 have hln:(ps ++ [(⟨k,o,s,n,l⟩:PN)]).length = ps.length + 1:=by simp
 have R3:w6.heap[w.heap.size + 1]? = some (nodO 10 0 emptyB 0 (.slice ao ps.length cap)):=(hk _ (by omega) (by omega)).trans (G5.row h.r3 (by omega))
 have G7:=G6.set (p:=⟨w.heap.size + 1,4,none⟩) (Or.inl (by show w.heap.size ≤ w.heap.size + 1;omega)) (.slice (some ⟨g',0,none⟩) (ps.length + 1) cap')
 have R2:w6.heap[w.heap.size]? = some (nodO 0 0 emptyB 0 (.slice none 0 0)):=(hk _ (by omega) (by omega)).trans (G5.row h.r2 (by omega))
 have hgw6:g < w6.heap.size:=S6.lt
 have S7:Rp (w6.setCell ⟨w.heap.size + 1,4,none⟩ (.slice (some ⟨g',0,none⟩) (ps.length + 1) cap')) g len T wd st5:=by
  obtain ⟨V,i,pl,dp,h1,⟨a2,cap2,rfl,q1,q2,q3⟩,h3⟩:=S6.ex
  refine ⟨⟨_,i,pl,dp,row_other h1 (by omega) _ _,⟨a2,cap2,rfl,q1,q2,?_⟩,h3⟩,S6.nv,S6.tk,S6.tl⟩
  rcases q3 with q3 | ⟨b',off,rfl,hb',hcc⟩
  ·exact Or.inl q3
  ·refine Or.inr ⟨b',off,rfl,hb',fun j u hu => ?_⟩
   rw [World.cell?_of_block (w:=w6) (Below.heap_setCell w6 ⟨w.heap.size + 1,4,none⟩ _ b' (by show b' ≠ w.heap.size + 1;omega))]
   exact hcc j u hu
 exact ⟨hq,hnp,hfu,fun e => by rw [hln];have:=hbd e;omega,hg,S7,G7,row_other R2 (by omega) _ _,by rw [hln];exact row_set R3 4 _,H6.on K6 (by omega)⟩
end Go.Proofs.YtgkdmgndebifiaaGreatDoor
