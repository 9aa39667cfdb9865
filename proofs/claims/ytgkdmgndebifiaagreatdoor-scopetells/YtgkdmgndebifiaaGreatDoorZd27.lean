/- A function without parameters,in the document's own reader. -/
import Derived.Test.YtgkdmgndebifiaaGreatDoorZd26
set_option linter.unusedSimpArgs false
set_option linter.unusedVariables false
set_option maxRecDepth 10000
namespace Go.Proofs.YtgkdmgndebifiaaGreatDoor
open Go.RowKit
variable {w w':World} {g len:Nat} {T:List Tk} {wd:Int} {st:PS}
set_option maxHeartbeats 8000000 in
theorem function_none (bl:Rdr) (f:Nat) (hgb:GoodR bl) (hbl:RBlk g len T wd bl (funB len f st).2) (hS:((funA len st).2.sign len ⟨#[40]⟩).isS ⟨#[41]⟩ = true) (h:Rp w g len T wd st) :
  Calls Tryz.prog 13 #[.pointer (some ⟨g,0,none⟩)] w (RFun w g len T wd (funP len bl f st)):=by
 have hg:=h.lt
 have n1:=(pword_kp h.nv len ⟨#[102,110]⟩).nv h.nv
 have n2:=(name_kp n1 len).nv n1
 have n3:=(psign_kp n2 len ⟨#[40]⟩).nv n2
 have HFn:=hide (fun (W:World) (x:Rp W g len T wd st) => want_w x ⟨#[102,110]⟩ (by decide +kernel))
 have HNm:Hd (∀ W,Rp W g len T wd (st.word len ⟨#[102,110]⟩) → Calls Tryz.prog 32 #[.pointer (some ⟨g,0,none⟩)] W (RAns W g len T wd (.string (funA len st).1) (funA len st).2)):=fun W x => name_r x
 have HOp:=hide (fun (W:World) (x:Rp W g len T wd (funA len st).2) => want_s x ⟨#[40]⟩ (by decide +kernel))
 have H:=hide h
 have HBl:=hide hbl
 unfold RBlk at HBl
 have HTk:=hide (fun (W:World) (x:Rp W g len T wd ((funA len st).2.sign len ⟨#[40]⟩)) => takeS_yes x ⟨#[41]⟩ (by decide +kernel) hS)
 have eB:funB len f st = ([],((funA len st).2.sign len ⟨#[40]⟩).next):=by unfold funB parP;rw [hS];rfl
 obtain ⟨RS,hRS⟩:∃ RS,RS = funP len bl f st:=⟨_,rfl⟩
 rw [← hRS]
 have hRS2:RS = (⟨(funA len st).1,[],(bl (funB len f st).2).1⟩,(bl (funB len f st).2).2):=by rw [hRS,funP,eB]
 have HRS1:Hd (RS.1 = ⟨(funA len st).1,[],(bl (funB len f st).2).1⟩):=by rw [Hd,hRS2]
 have hRS3:(bl (funB len f st).2).2 = RS.2:=by rw [hRS2]
 obtain ⟨bq,hbq⟩:∃ bq,bq = bl (funB len f st).2:=⟨_,rfl⟩
 rw [← hbq] at HBl HRS1 hRS3
 rw [eB] at HBl
 clear h hbl hgb n1 n2 n3 hRS hRS2 eB hS hbq
 obtain ⟨bq1,bq2⟩:=bq
 simp only at hRS3 HRS1
 subst hRS3
 generalize (funA len st).2.sign len ⟨#[40]⟩ = u3 at *
 generalize funA len st = qa at *
 obtain ⟨fnm,u2⟩:=qa
 simp only at *
 have hwg:(w.heap.size == g) = false:=by simp;omega
 go_enter Tryz.func13,Tryz.ntmps13
 go_wp2_with (first
  | (have T9:=unhide H;go_at_call 31;refine Calls.mono (unhide HFn _ (T9.ext (Ext.alloc _ _))) ?_;rintro e w1 ⟨rfl,hs,hw⟩;have S1:=hide hs;have G1:=hide ((Gr.of (Ext.alloc w _)).trans hw);have R1:=hide (hw.row (Go.heap_alloc_new w _) (by omega));clear hw hs T9 H)
  | (have T9:=unhide S1;go_at_call 32;refine Calls.mono (unhide HNm _ T9) ?_;rintro e w2 ⟨rfl,hs,hw⟩;have N2:=hide (FS.start hg (hw.row (unhide R1) (by omega)) ((unhide G1).trans hw) hs fnm);clear hw hs T9 S1 R1 G1)
  | (have T9:=unhide N2;go_at_call 31;refine Calls.mono (unhide HOp _ T9.rs) ?_;rintro e w3 ⟨rfl,hs,hw⟩;have N3:=hide (T9.go hs hw);clear hw hs T9 N2)
  | (have T9:=unhide N3;go_at_call 33;refine Calls.mono (unhide HTk _ T9.rs) ?_;rintro e w4 ⟨rfl,hs,hw⟩;have N4:=hide (T9.go hs hw);clear hw hs T9 N3)
  | (have T9:=unhide N4;go_at_call 34;refine Calls.mono (unhide HBl _ T9.rs) ?_;rintro e w5 ⟨v,p5,rfl,hr,hp,hs,hw⟩;obtain ⟨k2,o2,s2,n2,l2⟩:=p5;rw [RepN] at hr;obtain ⟨a2,cap2,rfl,hcap2,hl3⟩:=hr;have NB:=hide (T9.body (k:=k2) (o:=o2) (s:=s2) (n2:=n2) hs hw hl3 hcap2);have P5:=hide hp;have d0:=rowC (T9.go hs hw).r3 0 rfl;have d1:=rowC (T9.go hs hw).r3 1 rfl;have d2:=rowC (T9.go hs hw).r3 2 rfl;have d3:=rowC (T9.go hs hw).r3 3 rfl;have d4:=rowC (T9.go hs hw).r3 4 rfl;have d5:=rowC (T9.go hs hw).r3 5 rfl;have d6:=rowC (T9.go hs hw).r3 6 rfl;have dz:=rowF (T9.go hs hw).r3;clear hw hs hl3 hp T9 N4))
 refine gen_world (F:=fun W => Code.wp _ _ _ _ W) ?_
 intro W9 hW9
 have NC0:FB g len T wd w W9 w2.heap.size RS.2 fnm [] 0 none 0 k2 o2 s2 n2 l2 l2.length a2 cap2:=by rw [hW9];exact unhide NB
 obtain ⟨lnq,NC1⟩:∃ m,FB g len T wd w W9 w2.heap.size RS.2 fnm [] 0 none 0 k2 o2 s2 n2 l2 m a2 cap2:=⟨_,NC0⟩
 obtain ⟨nq,NC2⟩:∃ m,FB g len T wd w W9 w2.heap.size RS.2 fnm [] m none 0 k2 o2 s2 n2 l2 lnq a2 cap2:=⟨_,NC1⟩
 have NC:=hide NC2
 clear NC0 NC1 NC2 NB hW9
 clear d0 d1 d2 d3 d4 d5 d6 dz
 have hBB:=(unhide NC).hB
 have hne1:(w2.heap.size == g) = false:=by simp;omega
 have hne2:(w.heap.size == w2.heap.size) = false:=by simp;omega
 have d1:W9.cell? ⟨w2.heap.size,1,none⟩ = some (.slice none nq 0):=rowC (unhide NC).r3 1 rfl
 obtain ⟨V9,i9,pl9,dp9,hrow9,-⟩:=(unhide NC).rs.ex
 have c6:W9.cell? ⟨g,6,none⟩ = some (.int .i64 wd):=rowC hrow9 6 rfl
 have cz:=rowF hrow9
 clear hrow9
 refine wp_nrm ?_
 first | skip;go_region_law (first | fail) | fail
 all_goals
  refine nrm_inB ?_
  have RQ:=(unhide NC).r3
  have RR:=(unhide NC).r2
  clear d1
  have q0:=rowC RQ 0 rfl
  have q1:=rowC RQ 1 rfl
  have q2:=rowC RQ 2 rfl
  have q3:=rowC RQ 3 rfl
  have q4:=rowC RQ 4 rfl
  have q5:=rowC RQ 5 rfl
  have q6:=rowC RQ 6 rfl
  have qz:=rowF RQ
  have r0:=rowC RR 0 rfl
  have r1:=rowC RR 1 rfl
  have r2:=rowC RR 2 rfl
  have r3:=rowC RR 3 rfl
  have r4:=rowC RR 4 rfl
  have r5:=rowC RR 5 rfl
  have r6:=rowC RR 6 rfl
  have rz:=rowF RR
  clear RQ RR
  go_wp2_with fail
  exact bodyPost_ret (v:=funV fnm none nq 0 k2 o2 s2 n2 a2 lnq cap2) (res_fun Tryz.results13 _ _ w.heap.size _ _ _ _ _ _ _ _ _ _ _ rfl ((unhide NC).end _)) rfl ((unhide NC).fin (fun e => by rw [unhide P5 e,unhide HRS1]))
end Go.Proofs.YtgkdmgndebifiaaGreatDoor
