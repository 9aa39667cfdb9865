/- A statement of an expression,in the document's own reader. -/
import Derived.Test.YtjnpehohialmbaaGreatZs13
set_option linter.unusedSimpArgs false
set_option linter.unusedVariables false
set_option maxRecDepth 10000
set_option maxHeartbeats 8000000
namespace Go.Proofs.YtjnpehohialmbaaGreat
open Go.RowKit
section
variable {w w':World} {g len:Nat} {T:List Tk} {wd:Int} {st:PS}
theorem stmt_print (ex bl ch:Rdr) (hge:GoodR ex) (hex:∀ s:PS,s.ts.length < st.ts.length→RIs g len T wd 1 ex s) (h0:st.e=0) (hW:st.isW ⟨#[112,114,105,110,116]⟩=true) (h:Rp w g len T wd st) :
  Calls Tryz.prog 65 #[.pointer (some ⟨g,0,none⟩)] w (RNode w g len T wd (stmP len ex bl ch st)):=by
 have hg:=h.lt;have w_if:st.isW ⟨#[105,102]⟩=false:=onlyW hW (by decide +kernel);have w_while:st.isW ⟨#[119,104,105,108,101]⟩=false:=onlyW hW (by decide +kernel);have w_let:st.isW ⟨#[108,101,116]⟩=false:=onlyW hW (by decide +kernel);have w_break:st.isW ⟨#[98,114,101,97,107]⟩=false:=onlyW hW (by decide +kernel);have w_continue:st.isW ⟨#[99,111,110,116,105,110,117,101]⟩=false:=onlyW hW (by decide +kernel);have w_return:st.isW ⟨#[114,101,116,117,114,110]⟩=false:=onlyW hW (by decide +kernel);have e1:stmP len ex bl ch st=(⟨8,0,zE,0,[(ex st.next).1]⟩,(ex st.next).2.sign len ⟨#[59]⟩):=by
  unfold stmP;rw[w_let,notSet hW,w_if,w_while,w_break,w_continue,w_return,hW];rfl
 rw[e1];have hn1:st.next.ts.length < st.ts.length:=next_lt_of (isW_ne hW);have H:=zh h;have HIf:=zh (fun (W:World) (x:Rp W g len T wd st)=>is_no x h0 ⟨#[105,102]⟩ (by decide +kernel) w_if);have HT_while:=zh (fun (W:World) (x:Rp W g len T wd st)=>take_no x ⟨#[119,104,105,108,101]⟩ (by decide +kernel) w_while);have HT_let:=zh (fun (W:World) (x:Rp W g len T wd st)=>take_no x ⟨#[108,101,116]⟩ (by decide +kernel) w_let);have HT_break:=zh (fun (W:World) (x:Rp W g len T wd st)=>take_no x ⟨#[98,114,101,97,107]⟩ (by decide +kernel) w_break);have HT_continue:=zh (fun (W:World) (x:Rp W g len T wd st)=>take_no x ⟨#[99,111,110,116,105,110,117,101]⟩ (by decide +kernel) w_continue);have HT_return:=zh (fun (W:World) (x:Rp W g len T wd st)=>take_no x ⟨#[114,101,116,117,114,110]⟩ (by decide +kernel) w_return)
 have HTy:=zh (fun (W:World) (x:Rp W g len T wd st)=>take_yes x ⟨#[112,114,105,110,116]⟩ (by decide +kernel) hW);have HEx:=zh (hex st.next hn1);unfold RIs at HEx;have hwg:(w.heap.size == g)=false:=by simp;omega
 have hwg1:(w.heap.size+1 == g)=false:=by simp;omega
 clear h e1
 go_enter Tryz.func65,Tryz.ntmps65
 go_wp2_with (first
  | (go_at_call 63;refine Calls.mono (zu HIf _ ((zu H).ext ((Ext.alloc w _).trans (Ext.alloc _ _)))) ?_;rintro e w0 ⟨rfl,hw⟩;have RB0:=zh (hw.row ((Ext.alloc _ _).row (Go.heap_alloc_new w _)));have RN0:=zh (hw.row (Go.heap_alloc_new (w.alloc _) _));have G0:=zh ((Gr.of ((Ext.alloc w _).trans (Ext.alloc _ _))).trans (Gr.of (g:=g) hw));have S0:=zh ((zu H).ext (((Ext.alloc w _).trans (Ext.alloc _ _)).trans hw));clear hw)
  | (have T9:=zu S0;go_at_call 35;refine Calls.mono (zu HT_while _ T9) ?_;rintro e w1 ⟨rfl,hs,hw⟩;have RB1:=zh (hw.row (zu RB0) (by omega));have RN1:=zh (hw.row (zu RN0) (by simp;omega));have G1:=zh ((zu G0).trans hw);have S1:=zh hs;clear hw hs T9 S0 RB0 RN0 G0)
  | (have T9:=zu S1;go_at_call 35;refine Calls.mono (zu HT_let _ T9) ?_;rintro e w2 ⟨rfl,hs,hw⟩;have RB2:=zh (hw.row (zu RB1) (by omega));have RN2:=zh (hw.row (zu RN1) (by simp;omega));have G2:=zh ((zu G1).trans hw);have S2:=zh hs;clear hw hs T9 S1 RB1 RN1 G1)
  | (have T9:=zu S2;go_at_call 35;refine Calls.mono (zu HT_break _ T9) ?_;rintro e w3 ⟨rfl,hs,hw⟩;have RB3:=zh (hw.row (zu RB2) (by omega));have RN3:=zh (hw.row (zu RN2) (by simp;omega));have G3:=zh ((zu G2).trans hw);have S3:=zh hs;clear hw hs T9 S2 RB2 RN2 G2)
  | (have T9:=zu S3;go_at_call 35;refine Calls.mono (zu HT_continue _ T9) ?_;rintro e w4 ⟨rfl,hs,hw⟩;have RB4:=zh (hw.row (zu RB3) (by omega));have RN4:=zh (hw.row (zu RN3) (by simp;omega));have G4:=zh ((zu G3).trans hw);have S4:=zh hs;clear hw hs T9 S3 RB3 RN3 G3)
  | (have T9:=zu S4;go_at_call 35;refine Calls.mono (zu HT_return _ T9) ?_;rintro e w5 ⟨rfl,hs,hw⟩;have RB5:=zh (hw.row (zu RB4) (by omega));have RN5:=zh (hw.row (zu RN4) (by simp;omega));have G5:=zh ((zu G4).trans hw);have S5:=zh hs;clear hw hs T9 S4 RB4 RN4 G4)
  | (have T9:=zu S5;go_at_call 35;refine Calls.mono (zu HTy _ T9) ?_;rintro e wy ⟨rfl,hs,hw⟩;have RBy:=zh (hw.row (zu RB5) (by omega));have RNy:Hd (wy.heap[w.heap.size+1]? = some (nodO 0 0 zE 0 (.slice none 0 0))):=(by have h:=hw.row (zu RN5) (by simp;omega);rw[size_alloc] at h;exact h);have Gy:=zh ((zu G5).trans hw);have hyy:w.heap.size+1 < wy.heap.size:=(Array.getElem?_eq_some_iff.1 (zu RNy)).1;have Sy:=zh hs;clear hw hs T9 S5 RB5 RN5 G5)
  | (have T9:=zu Sy;go_at_call 97;refine Calls.mono (zu HEx _ T9) ?_;rintro e w5 ⟨v,p5,rfl,hr,hp,hs,hw⟩;obtain⟨k2,o2,s2,n2,l2⟩:=p5;rw[RepN] at hr;obtain⟨a2,cap2,rfl,hcap2,hl3⟩:=hr;have RB5:=zh (hw.row (zu RBy) (by omega));have RN5:=zh (hw.row (zu RNy) (by omega));have G5:=zh ((zu Gy).trans hw);have S5:=zh hs;have P5:=zh hp;have L5:=zh hl3;have h55:w.heap.size+1 < w5.heap.size:=(Array.getElem?_eq_some_iff.1 (zu RN5)).1;have hy5:wy.heap.size≤w5.heap.size:=hw.size;have d0:=zr (zu RN5) 0 rfl;have d1:=zr (zu RN5) 1 rfl;have d2:=zr (zu RN5) 2 rfl;have d3:=zr (zu RN5) 3 rfl;have d4:=zr (zu RN5) 4 rfl;have dz:=rowF (zu RN5);clear hw hs hl3 hp T9 Sy RBy RNy Gy))
 obtain⟨WZ,hWZ⟩:∃ WZ,WZ=(set5 w5 (w.heap.size+1) 8 0 zE 0 (.slice (some ⟨w5.heap.size,0,none⟩) 1 1)).alloc (nodO k2 o2 s2 n2 (.slice a2 l2.length cap2)):=⟨_,rfl⟩;have hg5:g < w5.heap.size:=(zu S5).lt;have hzz:=set5_size w5 (w.heap.size+1) 8 0 zE 0 (.slice (some ⟨w5.heap.size,0,none⟩) 1 1);have hSZ:Rp WZ g len T wd (ex st.next).2:=by rw[hWZ];exact((zu S5).set5 (by omega) _ _ _ _ _).ext (Ext.alloc _ _)
 have hNZ:WZ.heap[w.heap.size+1]? = some (nodO 8 0 zE 0 (.slice (some ⟨w5.heap.size,0,none⟩) 1 1)):=by rw[hWZ];exact(Ext.alloc _ _).row (set5_row (zu RN5) _ _ _ _ _)
 have hBZ:WZ.heap[w.heap.size]? = some (nodO 0 0 zE 0 (.slice none 0 0)):=by rw[hWZ];exact(Ext.alloc _ _).row ((set5_block (by omega) _ _ _ _ _).trans (zu RB5))
 have hKZ:WZ.heap[w5.heap.size]? = some (nodO k2 o2 s2 n2 (.slice a2 l2.length cap2)):=by
  have h:=Go.heap_alloc_new (set5 w5 (w.heap.size+1) 8 0 zE 0 (.slice (some ⟨w5.heap.size,0,none⟩) 1 1)) (nodO k2 o2 s2 n2 (.slice a2 l2.length cap2));rw[hzz] at h;rw[hWZ];exact h
 have hGZ:Gr g w WZ:=by rw[hWZ];exact((zu G5).set5 (by omega) _ _ _ _ _).alloc _
 have hzZ:WZ.heap.size=w5.heap.size+1:=by rw[hWZ,size_alloc,hzz]
 have hLZ:RepNL WZ (fun b=>w.heap.size+1 < b∧b < WZ.heap.size) [⟨k2,o2,s2,n2,l2⟩] (some ⟨w5.heap.size,0,none⟩):=by
  refine one_repR hKZ ⟨by omega,by omega⟩ hcap2 (RepNL.to (fun b hb => ?_) _ _ (zu L5));have h1:=hb.1;have h2:=hb.2;exact⟨⟨by omega,by omega⟩,by rw[hWZ];exact((Ext.alloc _ _).block b (by omega)).trans (set5_block (by omega) _ _ _ _ _)⟩
 have HG:=zh (fun (W:World) (x:Rp W g len T wd (ex st.next).2)=>want_s x ⟨#[59]⟩ (by decide +kernel));refine gen_world (F:=fun W=>Calls _ _ _ W _) ?_;intro W9 hW9;obtain rfl:W9=WZ:=hW9.trans hWZ.symm;have HKS:=zh (psign_kp hSZ.nv len ⟨#[59]⟩);have SZ:=zh hSZ;have NZ:=zh hNZ;have BZ:=zh hBZ;have GZ:=zh hGZ;have LZ:=zh hLZ;clear hW9 hWZ hSZ hNZ hBZ hGZ hKZ hLZ RB5 RN5 G5 S5 L5 d0 d1 d2 d3 d4 dz
 go_wp2_with (have T9:=zu SZ;go_at_call 33;refine Calls.mono (zu HG _ T9) ?_;rintro e w6 ⟨rfl,hs,hw⟩;have RE:=zh (hw.row (zu BZ) (by omega));have RQ:=zh (hw.row (zu NZ) (by omega));have r0:=zr (zu RE) 0 rfl;have r1:=zr (zu RE) 1 rfl;have r2:=zr (zu RE) 2 rfl;have r3:=zr (zu RE) 3 rfl;have r4:=zr (zu RE) 4 rfl;have rz:=rowF (zu RE);have q0:=zr (zu RQ) 0 rfl;have q1:=zr (zu RQ) 1 rfl;have q2:=zr (zu RQ) 2 rfl;have q3:=zr (zu RQ) 3 rfl;have q4:=zr (zu RQ) 4 rfl;have qz:=rowF (zu RQ);have S6:=zh hs;have G6:=zh ((zu GZ).trans hw);have G96:=zh hw;clear hw hs T9)
 have hrowF:(set5 w6 w.heap.size 8 0 zE 0 (.slice (some ⟨w5.heap.size,0,none⟩) 1 1)).heap[w.heap.size]? = some (nodO 8 0 zE 0 (.slice (some ⟨w5.heap.size,0,none⟩) 1 1)):=set5_row (zu RE) _ _ _ _ _;exact bodyPost_ret (v:=nodV 8 0 zE 0 (.slice (some ⟨w5.heap.size,0,none⟩) 1 1)) (res_nodR Tryz.results65 _ _ w.heap.size _ _ _ _ _ rfl hrowF) rfl (rnode_end (l:=[⟨k2,o2,s2,n2,l2⟩]) hg (zu S6) (zu G6) (Nat.le_refl _) (RepNL.to (fun b hb=>by have h1:=hb.1;have h2:=hb.2;have h3:=(zu G96).size;exact⟨⟨by omega,by omega⟩,(zu G96).block b h2 (by omega)⟩) _ _ (zu LZ)) (fun e=>by rw[zu P5 ((zu HKS).ok e).1]))
end
section
variable {w w' wr w2:World} {g len:Nat} {T:List Tk} {wd:Int} {st:PS}
theorem Rp.put (h:Rp w g len T wd st) {b:Nat} (hb:g < b) (i:Nat) (v:Value):Rp (w.setCell ⟨b,i,none⟩ v) g len T wd st:=by
 obtain⟨V,k,pl,dp,h1,⟨a2,cap2,rfl,q1,q2,q3⟩,h3⟩:=h.ex;refine⟨⟨_,k,pl,dp,row_other h1 (by omega) _ _,⟨a2,cap2,rfl,q1,q2,?_⟩,h3⟩,h.nv,h.tk,h.tl⟩;rcases q3 with q3 | ⟨b',off,rfl,hb',hcc⟩
 ·exact Or.inl q3
 ·refine Or.inr ⟨b',off,rfl,hb',fun j u hu => ?_⟩
  rw[World.cell?_of_block (w:=w) (Below.heap_setCell w ⟨b,i,none⟩ _ b' (by show b'≠b;omega))];exact hcc j u hu
structure HoldX (base B:Nat) (wr:World) (ps:List PN) (n:Nat) (ao:Option Addr) (cap:Nat):Prop where
 own:∃ xs,wr.ownsRow base 46 5 (.slice ao n cap) n xs∧RowN wr (fun b=>base≤b∧b < wr.heap.size∧b≠B∧some b≠(Value.slice ao n cap).ownBlock) ps xs
 ne:(Value.slice ao n cap).ownBlock≠some B
 hn:ps.length=n
variable {base B:Nat} {kd:Int} {nm:ByteArray} {ps:List PN} {n:Nat} {ao:Option Addr} {cap:Nat}
theorem HoldX.nil (base B:Nat) (wr:World):HoldX base B wr [] 0 none 0:=⟨⟨[],World.ownsRow_nil _ _ _ _,rfl⟩,by simp[Value.ownBlock],rfl⟩
theorem heldX_on {x:Nat} {v:Value} {xs:List Value} (hx:wr.ownsRow base 46 5 v n xs∧RowN wr (fun b=>base≤b∧b < wr.heap.size∧b≠B∧some b≠v.ownBlock) ps xs) (k:Gr x wr w2) (hb:x < base) :
  w2.ownsRow base 46 5 v n xs∧RowN w2 (fun b=>base≤b∧b < w2.heap.size∧b≠B∧some b≠v.ownBlock) ps xs :=
 ⟨own_gr hx.1 k hb,RowN.to (fun b hb=>⟨⟨hb.1,Nat.lt_of_lt_of_le hb.2.1 k.size,hb.2.2⟩,k.block b hb.2.1 (by have:=hb.1;omega)⟩) hx.2⟩
theorem HoldX.on {x:Nat} (h:HoldX base B wr ps n ao cap) (k:Gr x wr w2) (hx:x < base):HoldX base B w2 ps n ao cap:=by
 obtain⟨xs,hx2⟩:=h.own;exact⟨⟨xs,heldX_on hx2 k hx⟩,h.ne,h.hn⟩
theorem HoldX.node (h:HoldX base B wr ps n ao cap) (i:Nat) (v:Value):HoldX base B (wr.setCell ⟨B,i,none⟩ v) ps n ao cap:=by
 obtain⟨xs,h1,h2⟩:=h.own;refine⟨⟨xs,ownsRow_setCell_other h1 h.ne v,RowN.to (fun b hb=>⟨⟨hb.1,by simpa [World.setCell] using hb.2.1,hb.2.2⟩,Below.heap_setCell _ _ _ _ hb.2.2.1⟩) h2⟩,h.ne,h.hn⟩
theorem HoldX.done (h:HoldX base B wr ps n ao cap):ps.length≤cap∧RepNL wr (Fr base wr.heap.size) ps ao:=by
 obtain⟨xs,ho,hr⟩:=h.own;have hn:=h.hn;subst hn;obtain⟨hlen,⟨e,h0⟩ | ⟨b,cap2,cur,e,hb,hrow,hc,_⟩⟩:=id ho
 ·have:ps = []:=List.length_eq_zero_iff.1 h0
  subst this;exact⟨Nat.zero_le _,by simp[RepNL]⟩
 ·injection e with e1 e2 e3
  subst e1 e3;refine⟨hc,RowN.repL (g:=b) ⟨hb,(Array.getElem?_eq_some_iff.1 hrow).1⟩ (RowN.to (fun x hx=>⟨⟨hx.1,hx.2.1⟩,rfl⟩) hr) (cells_own ho)⟩
theorem HoldX.one {R:Nat} {W:World} {k o n2:Int} {s:ByteArray} {l:List PN} {a:Option Addr} {c:Nat} (hR:W.heap[R]? = some (nodO k o s n2 (.slice a l.length c))) (hb:base≤R) (hne:R≠B) (hc:l.length≤c) (hl:RepNL W (fun b=>base≤b∧b < W.heap.size∧b≠B∧b≠R) l a) :
  HoldX base B W [⟨k,o,s,n2,l⟩] 1 (some ⟨R,0,none⟩) 1:=by
 refine⟨⟨[.int .i64 k,.int .i64 o,.string s,.int .i64 n2,.slice a l.length c],⟨rfl,Or.inr ⟨R,1,_,rfl,hb,hR,Nat.le_refl _,by unfold maxLen;omega,rfl,rfl⟩⟩,a,c,[],by simp,hc,RepNL.to (fun b hb=>⟨⟨hb.1,hb.2.1,hb.2.2.1,fun e=>hb.2.2.2 ?_⟩,rfl⟩) _ _ hl,rfl⟩,by simpa [Value.ownBlock] using hne,rfl⟩
 simpa [Value.ownBlock] using e
structure NS (g len:Nat) (T:List Tk) (wd:Int) (w wr:World) (B:Nat) (st:PS) (kd:Int) (nm:ByteArray) (ps:List PN) (n:Nat) (ao:Option Addr) (cap:Nat):Prop where
 hg:g < w.heap.size
 hB:w.heap.size < B
 rs:Rp wr g len T wd st
 gr:Gr g w wr
 r2:wr.heap[w.heap.size]? = some (nodO 0 0 zE 0 (.slice none 0 0))
 r3:wr.heap[B]? = some (nodO kd 0 nm 0 (.slice ao n cap))
 hold:HoldX (w.heap.size+1) B wr ps n ao cap
theorem NS.start (h:Rp w g len T wd st):NS g len T wd w ((w.alloc (nodO 0 0 zE 0 (.slice none 0 0))).alloc (nodO 0 0 zE 0 (.slice none 0 0))) (w.heap.size+1) st 0 zE [] 0 none 0:=by
 have e1:=Go.heap_alloc_new (w.alloc (nodO 0 0 zE 0 (.slice none 0 0))) (nodO 0 0 zE 0 (.slice none 0 0));rw[size_alloc] at e1;exact⟨h.lt,Nat.lt_succ_self _,h.ext ((Ext.alloc w _).trans (Ext.alloc _ _)),Gr.of ((Ext.alloc w _).trans (Ext.alloc _ _)),(Ext.alloc _ _).row (Go.heap_alloc_new w _),e1,HoldX.nil _ _ _⟩
theorem NS.lt (h:NS g len T wd w wr B st kd nm ps n ao cap):B < wr.heap.size:=(Array.getElem?_eq_some_iff.1 h.r3).1
theorem NS.go {st':PS} (h:NS g len T wd w wr B st kd nm ps n ao cap) (hs:Rp w2 g len T wd st') (hw:Gr g wr w2):NS g len T wd w w2 B st' kd nm ps n ao cap:=by
 have hg:=h.hg;have hB:=h.hB;exact⟨h.hg,h.hB,hs,h.gr.trans hw,hw.row h.r2 (by omega),hw.row h.r3 (by omega),h.hold.on hw (by omega)⟩
theorem NS.ext (h:NS g len T wd w wr B st kd nm ps n ao cap) (hw:Ext wr w2):NS g len T wd w w2 B st kd nm ps n ao cap:=h.go (h.rs.ext hw) (Gr.of hw)
theorem NS.kind (h:NS g len T wd w wr B st kd nm ps n ao cap) (k:Int):NS g len T wd w (wr.setCell ⟨B,0,none⟩ (.int .i64 k)) B st k nm ps n ao cap:=by
 have hg:=h.hg;have hB:=h.hB;exact⟨h.hg,h.hB,h.rs.put (by omega) _ _,h.gr.set (p:=⟨B,0,none⟩) (Or.inl (by show w.heap.size≤B;omega)) _,row_other h.r2 (by omega) _ _,row_set h.r3 0 _,h.hold.node _ _⟩
theorem NS.set (h:NS g len T wd w wr B st kd nm ps n ao cap) (k:Int) (s:ByteArray):NS g len T wd w (set5 wr B k 0 s 0 (.slice none 0 0)) B st k s [] 0 none 0:=by
 have hg:=h.hg;have hB:=h.hB;exact⟨h.hg,h.hB,h.rs.set5 (by omega) _ _ _ _ _,h.gr.set5 (by omega) _ _ _ _ _,(set5_block (by omega) _ _ _ _ _).trans h.r2,set5_row h.r3 _ _ _ _ _,HoldX.nil _ _ _⟩
theorem NS.lit {wl:World} {st':PS} {k o n2:Int} {s:ByteArray} {l:List PN} {a:Option Addr} {c:Nat} (h:NS g len T wd w wl B st kd nm ps n ao cap) (hs:Rp wr g len T wd st') (hw:Gr g wl wr) (hl:RepNL wr (Fr wl.heap.size wr.heap.size) l a) (hc:l.length≤c) (k':Int) (s':ByteArray) :
  NS g len T wd w ((set5 wr B k' 0 s' 0 (.slice (some ⟨wr.heap.size,0,none⟩) 1 1)).alloc (nodO k o s n2 (.slice a l.length c))) B st' k' s' [⟨k,o,s,n2,l⟩] 1 (some ⟨wr.heap.size,0,none⟩) 1:=by
 have hg:=h.hg;have hB:=h.hB;have h1:=h.lt;have hz:=hw.size;have h9:=h.go hs hw;have hzz:=set5_size wr B k' 0 s' 0 (.slice (some ⟨wr.heap.size,0,none⟩) 1 1);have hnew:=Go.heap_alloc_new (set5 wr B k' 0 s' 0 (.slice (some ⟨wr.heap.size,0,none⟩) 1 1)) (nodO k o s n2 (.slice a l.length c));rw[hzz] at hnew;have hsz:((set5 wr B k' 0 s' 0 (.slice (some ⟨wr.heap.size,0,none⟩) 1 1)).alloc (nodO k o s n2 (.slice a l.length c))).heap.size=wr.heap.size+1:=by rw[size_alloc,hzz]
 refine⟨h.hg,h.hB,(hs.set5 (by omega) _ _ _ _ _).ext (Ext.alloc _ _),(h9.gr.set5 (by omega) _ _ _ _ _).alloc _,(Ext.alloc _ _).row ((set5_block (by omega) _ _ _ _ _).trans h9.r2),(Ext.alloc _ _).row (set5_row h9.r3 _ _ _ _ _),HoldX.one hnew (by omega) (by omega) hc ?_⟩;refine RepNL.to (fun b hb => ?_) _ _ hl;have q1:=hb.1;have q2:=hb.2;exact⟨⟨by omega,by rw[hsz];omega,by omega,by omega⟩,((Ext.alloc _ _).block b (by rw[hzz];omega)).trans (set5_block (by omega) _ _ _ _ _)⟩
theorem NS.row {wl:World} {st':PS} {k o n2:Int} {s:ByteArray} {l:List PN} {a:Option Addr} {c:Nat} (h:NS g len T wd w wl B st kd nm ps n ao cap) (hs:Rp wr g len T wd st') (hw:Gr g wl wr) (hl:RepNL wr (Fr wl.heap.size wr.heap.size) l a) (hc:l.length≤c) :
  NS g len T wd w ((wr.setCell ⟨B,4,none⟩ (.slice (some ⟨wr.heap.size,0,none⟩) 1 1)).alloc (nodO k o s n2 (.slice a l.length c))) B st' kd nm [⟨k,o,s,n2,l⟩] 1 (some ⟨wr.heap.size,0,none⟩) 1:=by
 have hg:=h.hg;have hB:=h.hB;have h1:=h.lt;have hz:=hw.size;have h9:=h.go hs hw;have hzz:(wr.setCell ⟨B,4,none⟩ (.slice (some ⟨wr.heap.size,0,none⟩) 1 1)).heap.size=wr.heap.size:=by simp[World.setCell]
 have hnew:=Go.heap_alloc_new (wr.setCell ⟨B,4,none⟩ (.slice (some ⟨wr.heap.size,0,none⟩) 1 1)) (nodO k o s n2 (.slice a l.length c));rw[hzz] at hnew;have hsz:((wr.setCell ⟨B,4,none⟩ (.slice (some ⟨wr.heap.size,0,none⟩) 1 1)).alloc (nodO k o s n2 (.slice a l.length c))).heap.size=wr.heap.size+1:=by rw[size_alloc,hzz]
 refine⟨h.hg,h.hB,(hs.put (by omega) _ _).ext (Ext.alloc _ _),(h9.gr.set (p:=⟨B,4,none⟩) (Or.inl (by show w.heap.size≤B;omega)) _).alloc _,(Ext.alloc _ _).row (row_other h9.r2 (by omega) _ _),(Ext.alloc _ _).row (row_set h9.r3 4 _),HoldX.one hnew (by omega) (by omega) hc ?_⟩;refine RepNL.to (fun b hb => ?_) _ _ hl;have q1:=hb.1;have q2:=hb.2;exact⟨⟨by omega,by rw[hsz];omega,by omega,by omega⟩,((Ext.alloc _ _).block b (by rw[hzz];omega)).trans (Below.heap_setCell _ _ _ _ (by show b≠B;omega))⟩
theorem NS.make {wl:World} {st':PS} {k o n2:Int} {s:ByteArray} {l:List PN} {a:Option Addr} {c:Nat} (hg:g < w.heap.size) (hr2:wl.heap[w.heap.size]? = some (nodO 0 0 zE 0 (.slice none 0 0))) (hgr:Gr g w wl) (hs:Rp wr g len T wd st') (hw:Gr g wl wr) (hl:RepNL wr (Fr wl.heap.size wr.heap.size) l a) (hc:l.length≤c) (k':Int) (s':ByteArray) :
  NS g len T wd w ((wr.alloc (nodO k o s n2 (.slice a l.length c))).alloc (nodO k' 0 s' 0 (.slice (some ⟨wr.heap.size,0,none⟩) 1 1))) (wr.heap.size+1) st' k' s' [⟨k,o,s,n2,l⟩] 1 (some ⟨wr.heap.size,0,none⟩) 1:=by
 have h1:w.heap.size < wl.heap.size:=(Array.getElem?_eq_some_iff.1 hr2).1;have hz:=hw.size;have X:Ext wr ((wr.alloc (nodO k o s n2 (.slice a l.length c))).alloc (nodO k' 0 s' 0 (.slice (some ⟨wr.heap.size,0,none⟩) 1 1))):=(Ext.alloc _ _).trans (Ext.alloc _ _);have e1:=Go.heap_alloc_new (wr.alloc (nodO k o s n2 (.slice a l.length c))) (nodO k' 0 s' 0 (.slice (some ⟨wr.heap.size,0,none⟩) 1 1));rw[size_alloc] at e1;have hsz:((wr.alloc (nodO k o s n2 (.slice a l.length c))).alloc (nodO k' 0 s' 0 (.slice (some ⟨wr.heap.size,0,none⟩) 1 1))).heap.size=wr.heap.size+2:=by rw[size_alloc,size_alloc]
 refine⟨hg,by omega,hs.ext X,(hgr.trans hw).trans (Gr.of X),X.row (hw.row hr2 (by omega)),e1,HoldX.one ((Ext.alloc _ _).row (Go.heap_alloc_new wr _)) (by omega) (by omega) hc ?_⟩;refine RepNL.to (fun b hb => ?_) _ _ hl;have q1:=hb.1;have q2:=hb.2;exact⟨⟨by omega,by rw[hsz];omega,by omega,by omega⟩,X.block b q2⟩
theorem NS.fin {r:PN × PS} (h:NS g len T wd w wr B r.2 kd nm ps n ao cap) (hp:r.2.e=0→(⟨kd,0,nm,0,ps⟩:PN)=r.1) :
  RNode w g len T wd r (.returned (nodV kd 0 nm 0 (.slice ao n cap))) (set5 wr w.heap.size kd 0 nm 0 (.slice ao n cap)):=by
 obtain⟨d1,d2⟩:=h.hold.done;have hn:=h.hold.hn;subst hn;exact rnode_end h.hg h.rs h.gr d1 (RepNL.to (fun b hb=>⟨⟨by have:=hb.1;omega,hb.2⟩,rfl⟩) _ _ d2) hp
theorem NS.end (h:NS g len T wd w wr B st kd nm ps n ao cap):(set5 wr w.heap.size kd 0 nm 0 (.slice ao n cap)).heap[w.heap.size]? = some (nodO kd 0 nm 0 (.slice ao n cap)):=set5_row h.r2 _ _ _ _ _
theorem NS.own (h:NS g len T wd w wr B st kd nm ps n ao cap):∃ xs,∀ W,Gr g wr W→W.ownsRow (w.heap.size+1) 46 5 (.slice ao n cap) n xs∧RowN W (fun b=>w.heap.size+1≤b∧b < W.heap.size∧b≠B∧some b≠(Value.slice ao n cap).ownBlock) ps xs:=by
 obtain⟨xs,hx⟩:=h.hold.own;have hg:=h.hg;exact⟨xs,fun W x=>heldX_on hx x (by omega)⟩
theorem NS.grown {wa w6:World} (h:NS g len T wd w wr B st kd nm ps n ao cap) (X5:Gr g wr wa) (hgw:wa.grownBy w6 (Value.slice ao n cap).ownBlock) :
  w6.heap[B]? = some (nodO kd 0 nm 0 (.slice ao n cap)):=by
 have hg:=h.hg;have hB:=h.hB;have h1:=h.lt;exact(hgw.block B (Nat.lt_of_lt_of_le h1 X5.size) (fun e=>h.hold.ne e.symm)).trans (X5.row h.r3 (by omega))
theorem NS.snoc {wa w6:World} {st5:PS} {g' cap':Nat} {k o n2:Int} {s:ByteArray} {l:List PN} {a:Option Addr} {c:Nat} {xs:List Value}
  (h:NS g len T wd w wr B st kd nm ps n ao cap) (X5:Gr g wr wa) (S5:Rp wa g len T wd st5) (hc:l.length≤c) (L5:RepNL wa (Fr wr.heap.size wa.heap.size) l a)
  (hx:wa.ownsRow (w.heap.size+1) 46 5 (.slice ao n cap) n xs∧RowN wa (fun b=>w.heap.size+1≤b∧b < wa.heap.size∧b≠B∧some b≠(Value.slice ao n cap).ownBlock) ps xs)
  (ho:w6.ownsRow (w.heap.size+1) 46 5 (.slice (some ⟨g',0,none⟩) (n+1) cap') (n+1) (xs++[.int .i64 k,.int .i64 o,.string s,.int .i64 n2,.slice a l.length c]))
  (hgw:wa.grownBy w6 (Value.slice ao n cap).ownBlock) (hw0:(Value.slice ao n cap).ownBlock=some g'∨wa.heap.size≤g') :
  NS g len T wd w (w6.setCell ⟨B,4,none⟩ (.slice (some ⟨g',0,none⟩) (n+1) cap')) B st5 kd nm (ps++[⟨k,o,s,n2,l⟩]) (n+1) (some ⟨g',0,none⟩) cap':=by
 have hg:=h.hg;have hB:=h.hB;have hr3:=h.lt;have hsz:=X5.size;have hk:=below_grown hx.1 hgw;have hn:=h.hold.hn;have hgB:g'≠B:=by
  rcases hw0 with e | e
  ·intro e2;exact h.hold.ne (e.trans (by rw[e2]))
  ·omega
 have hp:RepNL wa (fun b=>w.heap.size+1≤b∧b < wa.heap.size∧b≠B∧some b≠(Value.slice ao n cap).ownBlock) l a:=by
  obtain⟨ys,hy,_⟩:=h.hold.own;exact RepNL.to (fun b hb=>⟨⟨by have:=hb.1;omega,hb.2,by have:=hb.1;omega,fun e=>by have:=(hy.lt b e.symm).2;have:=hb.1;omega⟩,rfl⟩) _ _ L5
 have hF:∀ b,(w.heap.size+1≤b∧b < wa.heap.size∧b≠B∧some b≠(Value.slice ao n cap).ownBlock) →
   (w.heap.size+1≤b∧b < w6.heap.size∧b≠B∧some b≠(Value.slice (some ⟨g',0,none⟩) (n+1) cap').ownBlock)∧w6.heap[b]? = wa.heap[b]?:=by
  intro b hb;refine⟨⟨hb.1,Nat.lt_of_lt_of_le hb.2.1 hgw.size,hb.2.2.1,?_⟩,hgw.block b hb.2.1 hb.2.2.2⟩;intro e;simp only[Value.ownBlock,Option.some.injEq] at e;rcases hw0 with e2 | e2
  ·exact hb.2.2.2 (by rw[e2,e])
  ·have:=hb.2.1;omega
 have H6:HoldX (w.heap.size+1) B w6 (ps++[⟨k,o,s,n2,l⟩]) (n+1) (some ⟨g',0,none⟩) cap' :=
  ⟨⟨_,ho,RowN.snoc (p:=⟨k,o,s,n2,l⟩) hc (RepNL.to hF _ _ hp) (RowN.to hF hx.2)⟩,by simpa [Value.ownBlock] using hgB,by simp[hn]⟩
 have G6:Gr g w w6:=Gr.append (h.gr.trans X5) hx.1 (by omega) hgw;have S6:Rp w6 g len T wd st5:=S5.append (by omega) hx.1 hgw;have R3:=h.grown X5 hgw;have R2:w6.heap[w.heap.size]? = some (nodO 0 0 zE 0 (.slice none 0 0)):=(hk _ (by omega) (by omega)).trans (X5.row h.r2 (by omega));exact⟨hg,hB,S6.put (by omega) _ _,G6.set (p:=⟨B,4,none⟩) (Or.inl (by show w.heap.size≤B;omega)) _,row_other R2 (by omega) _ _,row_set R3 4 _,H6.node _ _⟩
theorem NS.snocA {w5 w6:World} {st5:PS} {g' cap':Nat} {k o n2:Int} {s:ByteArray} {l:List PN} {a:Option Addr} {c:Nat} {xs:List Value}
  (h:NS g len T wd w wr B st kd nm ps n ao cap) (X5:Gr g wr w5) (S5:Rp w5 g len T wd st5) (hc:l.length≤c) (L5:RepNL w5 (Fr wr.heap.size w5.heap.size) l a) (ob:Obj)
  (hx:(w5.alloc ob).ownsRow (w.heap.size+1) 46 5 (.slice ao n cap) n xs∧RowN (w5.alloc ob) (fun b=>w.heap.size+1≤b∧b < (w5.alloc ob).heap.size∧b≠B∧some b≠(Value.slice ao n cap).ownBlock) ps xs)
  (ho:w6.ownsRow (w.heap.size+1) 46 5 (.slice (some ⟨g',0,none⟩) (n+1) cap') (n+1) (xs++[.int .i64 k,.int .i64 o,.string s,.int .i64 n2,.slice a l.length c]))
  (hgw:(w5.alloc ob).grownBy w6 (Value.slice ao n cap).ownBlock) (hw0:(Value.slice ao n cap).ownBlock=some g'∨(w5.alloc ob).heap.size≤g') :
  NS g len T wd w (w6.setCell ⟨B,4,none⟩ (.slice (some ⟨g',0,none⟩) (n+1) cap')) B st5 kd nm (ps++[⟨k,o,s,n2,l⟩]) (n+1) (some ⟨g',0,none⟩) cap' :=
 h.snoc (X5.alloc ob) (S5.ext (Ext.alloc _ ob)) hc (RepNL.to (fun b hb=>⟨⟨hb.1,by rw[size_alloc];have:=hb.2;omega⟩,(Ext.alloc w5 ob).block b hb.2⟩) _ _ L5) hx ho hgw hw0
def RBlk (g len:Nat) (T:List Tk) (wd:Int) (bl:Rdr) (st:PS):Prop :=
 ∀ W,Rp W g len T wd st→Calls Tryz.prog 36 #[.pointer (some ⟨g,0,none⟩)] W (RNode W g len T wd (bl st))
def RBrn (g len:Nat) (T:List Tk) (wd:Int) (ch:Rdr) (st:PS):Prop :=
 ∀ W,Rp W g len T wd st→st.e=0→st.isW ⟨#[105,102]⟩=true→Calls Tryz.prog 96 #[.pointer (some ⟨g,0,none⟩)] W (RNode W g len T wd (ch st.next))
def RStm (g len:Nat) (T:List Tk) (wd:Int) (sm:Rdr) (st:PS):Prop :=
 ∀ W,Rp W g len T wd st→st.e=0→Calls Tryz.prog 65 #[.pointer (some ⟨g,0,none⟩)] W (RNode W g len T wd (sm st))
theorem enterRBlk (v:Value) (w:World):(callFunc 36 #[v]).run Tryz.prog w = .ok (.enter 36 #[v]) w:=by kernel_rfl
end
section
variable {w w':World} {g len:Nat} {T:List Tk} {wd:Int} {st:PS}
theorem stmt_return0 (ex bl ch:Rdr) (h0:st.e=0) (hW:st.isW ⟨#[114,101,116,117,114,110]⟩=true) (hsc:st.next.isS ⟨#[59]⟩=true) (h:Rp w g len T wd st) :
  Calls Tryz.prog 65 #[.pointer (some ⟨g,0,none⟩)] w (RNode w g len T wd (stmP len ex bl ch st)):=by
 have hg:=h.lt;have w_if:st.isW ⟨#[105,102]⟩=false:=onlyW hW (by decide +kernel);have w_while:st.isW ⟨#[119,104,105,108,101]⟩=false:=onlyW hW (by decide +kernel);have w_let:st.isW ⟨#[108,101,116]⟩=false:=onlyW hW (by decide +kernel);have w_break:st.isW ⟨#[98,114,101,97,107]⟩=false:=onlyW hW (by decide +kernel);have w_continue:st.isW ⟨#[99,111,110,116,105,110,117,101]⟩=false:=onlyW hW (by decide +kernel);have w_print:st.isW ⟨#[112,114,105,110,116]⟩=false:=onlyW hW (by decide +kernel);have e1:stmP len ex bl ch st=(⟨7,0,zE,0,[]⟩,st.next.sign len ⟨#[59]⟩):=by
  unfold stmP;rw[w_let,notSet hW,w_if,w_while,w_break,w_continue,hW];simp only[Bool.false_eq_true,if_false,if_true];unfold answerP;rw[hsc];rfl
 rw[e1];have H:=zh h;have HIf:=zh (fun (W:World) (x:Rp W g len T wd st)=>is_no x h0 ⟨#[105,102]⟩ (by decide +kernel) w_if);have HT_while:=zh (fun (W:World) (x:Rp W g len T wd st)=>take_no x ⟨#[119,104,105,108,101]⟩ (by decide +kernel) w_while);have HT_let:=zh (fun (W:World) (x:Rp W g len T wd st)=>take_no x ⟨#[108,101,116]⟩ (by decide +kernel) w_let);have HT_break:=zh (fun (W:World) (x:Rp W g len T wd st)=>take_no x ⟨#[98,114,101,97,107]⟩ (by decide +kernel) w_break);have HT_continue:=zh (fun (W:World) (x:Rp W g len T wd st)=>take_no x ⟨#[99,111,110,116,105,110,117,101]⟩ (by decide +kernel) w_continue);have HT_return:=zh (fun (W:World) (x:Rp W g len T wd st)=>take_yes x ⟨#[114,101,116,117,114,110]⟩ (by decide +kernel) hW);have h01:st.next.e=0:=h0
 have HIs:Hd (∀ W,Rp W g len T wd st.next→Calls Tryz.prog 63 #[.pointer (some ⟨g,0,none⟩),.string ⟨#[59]⟩] W fun e w'=>e = .returned (.bool true)∧Ext W w'):=fun W x=>by
  have:=is_r x h01 ⟨#[59]⟩;rw[isA_S x h01 (by decide +kernel),hsc] at this;exact this
 have HG:=zh (fun (W:World) (x:Rp W g len T wd st.next)=>want_s x ⟨#[59]⟩ (by decide +kernel));clear h e1;have hwg:(w.heap.size == g)=false:=by simp;omega
 have hwg1:(w.heap.size+1 == g)=false:=by simp;omega
 go_enter Tryz.func65,Tryz.ntmps65
 go_wp2_with (first
  | (have T9:=zu H;go_at_call 63;refine Calls.mono (zu HIf _ (NS.start T9).rs) ?_;rintro e w0 ⟨rfl,hw⟩;have N0:=zh ((NS.start T9).ext hw);clear hw T9 H)
  | (have T9:=zu N0;go_at_call 35;refine Calls.mono (zu HT_while _ T9.rs) ?_;rintro e w1 ⟨rfl,hs,hw⟩;have N1:=zh (T9.go hs hw);clear hw hs T9 N0)
  | (have T9:=zu N1;go_at_call 35;refine Calls.mono (zu HT_let _ T9.rs) ?_;rintro e w2 ⟨rfl,hs,hw⟩;have N2:=zh (T9.go hs hw);clear hw hs T9 N1)
  | (have T9:=zu N2;go_at_call 35;refine Calls.mono (zu HT_break _ T9.rs) ?_;rintro e w3 ⟨rfl,hs,hw⟩;have N3:=zh (T9.go hs hw);clear hw hs T9 N2)
  | (have T9:=zu N3;go_at_call 35;refine Calls.mono (zu HT_continue _ T9.rs) ?_;rintro e w4 ⟨rfl,hs,hw⟩;have N4:=zh (T9.go hs hw);clear hw hs T9 N3)
  | (have T9:=zu N4;go_at_call 35;refine Calls.mono (zu HT_return _ T9.rs) ?_;rintro e w5 ⟨rfl,hs,hw⟩;have N5:=zh (T9.go hs hw);have N6:=zh ((zu N5).kind 7);have d0:=zr (zu N5).r3 0 rfl;have d1:=zr (zu N5).r3 1 rfl;have d2:=zr (zu N5).r3 2 rfl;have d3:=zr (zu N5).r3 3 rfl;have d4:=zr (zu N5).r3 4 rfl;have dz:=rowF (zu N5).r3;clear hw hs T9 N4)
  | (have T9:=zu N6;go_at_call 63;refine Calls.mono (zu HIs _ T9.rs) ?_;rintro e w7 ⟨rfl,hw⟩;have N7:=zh (T9.ext hw);clear hw T9 N6)
  | (have T9:=zu N7;go_at_call 33;refine Calls.mono (zu HG _ T9.rs) ?_;rintro e w8 ⟨rfl,hs,hw⟩;have N8:=zh (T9.go hs hw);have r0:=zr (zu N8).r2 0 rfl;have r1:=zr (zu N8).r2 1 rfl;have r2:=zr (zu N8).r2 2 rfl;have r3:=zr (zu N8).r2 3 rfl;have r4:=zr (zu N8).r2 4 rfl;have rz:=rowF (zu N8).r2;have q0:=zr (zu N8).r3 0 rfl;have q1:=zr (zu N8).r3 1 rfl;have q2:=zr (zu N8).r3 2 rfl;have q3:=zr (zu N8).r3 3 rfl;have q4:=zr (zu N8).r3 4 rfl;have qz:=rowF (zu N8).r3;clear hw hs T9 N7))
 exact bodyPost_ret (v:=nodV 7 0 zE 0 (.slice none 0 0)) (res_nodR Tryz.results65 _ _ w.heap.size _ _ _ _ _ rfl (zu N8).end) rfl ((zu N8).fin (fun _=>rfl))
theorem stmt_return1 (ex bl ch:Rdr) (hge:GoodR ex) (hex:∀ s:PS,s.ts.length < st.ts.length→RIs g len T wd 1 ex s) (h0:st.e=0) (hW:st.isW ⟨#[114,101,116,117,114,110]⟩=true) (hsc:st.next.isS ⟨#[59]⟩=false) (h:Rp w g len T wd st) :
  Calls Tryz.prog 65 #[.pointer (some ⟨g,0,none⟩)] w (RNode w g len T wd (stmP len ex bl ch st)):=by
 have hg:=h.lt;have w_if:st.isW ⟨#[105,102]⟩=false:=onlyW hW (by decide +kernel);have w_while:st.isW ⟨#[119,104,105,108,101]⟩=false:=onlyW hW (by decide +kernel);have w_let:st.isW ⟨#[108,101,116]⟩=false:=onlyW hW (by decide +kernel);have w_break:st.isW ⟨#[98,114,101,97,107]⟩=false:=onlyW hW (by decide +kernel);have w_continue:st.isW ⟨#[99,111,110,116,105,110,117,101]⟩=false:=onlyW hW (by decide +kernel);have w_print:st.isW ⟨#[112,114,105,110,116]⟩=false:=onlyW hW (by decide +kernel);have e1:stmP len ex bl ch st=(⟨7,0,zE,0,[(ex st.next).1]⟩,(ex st.next).2.sign len ⟨#[59]⟩):=by
  unfold stmP;rw[w_let,notSet hW,w_if,w_while,w_break,w_continue,hW];simp only[Bool.false_eq_true,if_false,if_true];unfold answerP;rw[hsc];rfl
 rw[e1];have hn1:st.next.ts.length < st.ts.length:=next_lt_of (isW_ne hW);have H:=zh h;have HIf:=zh (fun (W:World) (x:Rp W g len T wd st)=>is_no x h0 ⟨#[105,102]⟩ (by decide +kernel) w_if);have HT_while:=zh (fun (W:World) (x:Rp W g len T wd st)=>take_no x ⟨#[119,104,105,108,101]⟩ (by decide +kernel) w_while);have HT_let:=zh (fun (W:World) (x:Rp W g len T wd st)=>take_no x ⟨#[108,101,116]⟩ (by decide +kernel) w_let);have HT_break:=zh (fun (W:World) (x:Rp W g len T wd st)=>take_no x ⟨#[98,114,101,97,107]⟩ (by decide +kernel) w_break);have HT_continue:=zh (fun (W:World) (x:Rp W g len T wd st)=>take_no x ⟨#[99,111,110,116,105,110,117,101]⟩ (by decide +kernel) w_continue);have HT_return:=zh (fun (W:World) (x:Rp W g len T wd st)=>take_yes x ⟨#[114,101,116,117,114,110]⟩ (by decide +kernel) hW)
 have h01:st.next.e=0:=h0;have HIs:Hd (∀ W,Rp W g len T wd st.next→Calls Tryz.prog 63 #[.pointer (some ⟨g,0,none⟩),.string ⟨#[59]⟩] W fun e w'=>e = .returned (.bool false)∧Ext W w'):=fun W x=>by
  have:=is_r x h01 ⟨#[59]⟩;rw[isA_S x h01 (by decide +kernel),hsc] at this;exact this
 have HEx:=zh (hex st.next hn1);unfold RIs at HEx;have hnv2:=(hge st.next ((next_kp h.nv).nv h.nv)).nv ((next_kp h.nv).nv h.nv);have HKS:=zh (psign_kp hnv2 len ⟨#[59]⟩);have HG:=zh (fun (W:World) (x:Rp W g len T wd (ex st.next).2)=>want_s x ⟨#[59]⟩ (by decide +kernel));clear h e1 hex hge hnv2;have hwg:(w.heap.size == g)=false:=by simp;omega
 have hwg1:(w.heap.size+1 == g)=false:=by simp;omega
 go_enter Tryz.func65,Tryz.ntmps65
 go_wp2_with (first
  | (have T9:=zu H;go_at_call 63;refine Calls.mono (zu HIf _ (NS.start T9).rs) ?_;rintro e w0 ⟨rfl,hw⟩;have N0:=zh ((NS.start T9).ext hw);clear hw T9 H)
  | (have T9:=zu N0;go_at_call 35;refine Calls.mono (zu HT_while _ T9.rs) ?_;rintro e w1 ⟨rfl,hs,hw⟩;have N1:=zh (T9.go hs hw);clear hw hs T9 N0)
  | (have T9:=zu N1;go_at_call 35;refine Calls.mono (zu HT_let _ T9.rs) ?_;rintro e w2 ⟨rfl,hs,hw⟩;have N2:=zh (T9.go hs hw);clear hw hs T9 N1)
  | (have T9:=zu N2;go_at_call 35;refine Calls.mono (zu HT_break _ T9.rs) ?_;rintro e w3 ⟨rfl,hs,hw⟩;have N3:=zh (T9.go hs hw);clear hw hs T9 N2)
  | (have T9:=zu N3;go_at_call 35;refine Calls.mono (zu HT_continue _ T9.rs) ?_;rintro e w4 ⟨rfl,hs,hw⟩;have N4:=zh (T9.go hs hw);clear hw hs T9 N3)
  | (have T9:=zu N4;go_at_call 35;refine Calls.mono (zu HT_return _ T9.rs) ?_;rintro e w5 ⟨rfl,hs,hw⟩;have N5:=zh (T9.go hs hw);have N6:=zh ((zu N5).kind 7);have d0:=zr (zu N5).r3 0 rfl;have d1:=zr (zu N5).r3 1 rfl;have d2:=zr (zu N5).r3 2 rfl;have d3:=zr (zu N5).r3 3 rfl;have d4:=zr (zu N5).r3 4 rfl;have dz:=rowF (zu N5).r3;clear hw hs T9 N4)
  | (have T9:=zu N6;go_at_call 63;refine Calls.mono (zu HIs _ T9.rs) ?_;rintro e w7 ⟨rfl,hw⟩;have N7:=zh (T9.ext hw);clear d0 d1 d2 d3 d4 dz;clear hw T9 N6)
  | (have T9:=zu N7;go_at_call 97;refine Calls.mono (zu HEx _ T9.rs) ?_;rintro e w8 ⟨v,p5,rfl,hr,hp,hs,hw⟩;obtain⟨k2,o2,s2,n2,l2⟩:=p5;rw[RepN] at hr;obtain⟨a2,cap2,rfl,hcap2,hl3⟩:=hr;have N8:=zh (T9.go hs hw);have N9:=zh (T9.row (k:=k2) (o:=o2) (n2:=n2) (s:=s2) hs hw hl3 hcap2);have hlt8:=(zu N8).lt;have P5:=zh hp;have d0:=zr (zu N8).r3 0 rfl;have d1:=zr (zu N8).r3 1 rfl;have d2:=zr (zu N8).r3 2 rfl;have d3:=zr (zu N8).r3 3 rfl;have d4:=zr (zu N8).r3 4 rfl;have dz:=rowF (zu N8).r3;clear hw hs hl3 hp T9 N7)
  | (have T9:=zu N9;go_at_call 33;refine Calls.mono (zu HG _ T9.rs) ?_;rintro e w10 ⟨rfl,hs,hw⟩;have N10:=zh (T9.go hs hw);have r0:=zr (zu N10).r2 0 rfl;have r1:=zr (zu N10).r2 1 rfl;have r2:=zr (zu N10).r2 2 rfl;have r3:=zr (zu N10).r2 3 rfl;have r4:=zr (zu N10).r2 4 rfl;have rz:=rowF (zu N10).r2;have q0:=zr (zu N10).r3 0 rfl;have q1:=zr (zu N10).r3 1 rfl;have q2:=zr (zu N10).r3 2 rfl;have q3:=zr (zu N10).r3 3 rfl;have q4:=zr (zu N10).r3 4 rfl;have qz:=rowF (zu N10).r3;clear hw hs T9 N9))
 exact bodyPost_ret (v:=nodV 7 0 zE 0 (.slice (some ⟨w8.heap.size,0,none⟩) 1 1)) (res_nodR Tryz.results65 _ _ w.heap.size _ _ _ _ _ rfl (zu N10).end) rfl ((zu N10).fin (fun e=>by rw[zu P5 ((zu HKS).ok e).1]))
end
section
variable {w w':World} {g len:Nat} {T:List Tk} {wd:Int} {st:PS}
theorem stmt_let (ex bl ch:Rdr) (hge:GoodR ex) (hex:∀ s:PS,s.ts.length < st.ts.length→RIs g len T wd 1 ex s) (h0:st.e=0) (hW:st.isW ⟨#[108,101,116]⟩=true) (h:Rp w g len T wd st) :
  Calls Tryz.prog 65 #[.pointer (some ⟨g,0,none⟩)] w (RNode w g len T wd (stmP len ex bl ch st)):=by
 have hg:=h.lt;have w_if:st.isW ⟨#[105,102]⟩=false:=onlyW hW (by decide +kernel);have w_while:st.isW ⟨#[119,104,105,108,101]⟩=false:=onlyW hW (by decide +kernel);have w_break:st.isW ⟨#[98,114,101,97,107]⟩=false:=onlyW hW (by decide +kernel);have w_continue:st.isW ⟨#[99,111,110,116,105,110,117,101]⟩=false:=onlyW hW (by decide +kernel);have w_return:st.isW ⟨#[114,101,116,117,114,110]⟩=false:=onlyW hW (by decide +kernel);have w_print:st.isW ⟨#[112,114,105,110,116]⟩=false:=onlyW hW (by decide +kernel);obtain⟨sq,hsq⟩:∃ sq,sq=(st.next.name len).2.sign len ⟨#[61]⟩:=⟨_,rfl⟩;have e1:stmP len ex bl ch st=(⟨1,0,(st.next.name len).1,0,[(ex sq).1]⟩,(ex sq).2.sign len ⟨#[59]⟩):=by
  unfold stmP;rw[hW,hsq];rfl
 rw[e1];have hn1:st.next.ts.length < st.ts.length:=next_lt_of (isW_ne hW);have hn2:=name_le st.next len;have hn3:=psign_le (st.next.name len).2 len ⟨#[61]⟩;have H:=zh h;have HIf:=zh (fun (W:World) (x:Rp W g len T wd st)=>is_no x h0 ⟨#[105,102]⟩ (by decide +kernel) w_if);have HT_while:=zh (fun (W:World) (x:Rp W g len T wd st)=>take_no x ⟨#[119,104,105,108,101]⟩ (by decide +kernel) w_while);have HT_let:=zh (fun (W:World) (x:Rp W g len T wd st)=>take_yes x ⟨#[108,101,116]⟩ (by decide +kernel) hW);have HNm:=zh (fun (W:World) (x:Rp W g len T wd st.next)=>name_r x);have HEq:Hd (∀ W,Rp W g len T wd (st.next.name len).2→Calls Tryz.prog 33 #[.pointer (some ⟨g,0,none⟩),.string ⟨#[61]⟩] W (RAns W g len T wd (.tuple #[]) sq)):=fun W x=>by rw[hsq];exact want_s x ⟨#[61]⟩ (by decide +kernel)
 have HEx:=zh (hex sq (by rw[hsq];omega));unfold RIs at HEx;have k1:=next_kp h.nv;have k2':=name_kp (k1.nv h.nv) len;have k3:=psign_kp (k2'.nv (k1.nv h.nv)) len ⟨#[61]⟩;rw[← hsq] at k3;have nq:=k3.nv (k2'.nv (k1.nv h.nv));have HKS:=zh (psign_kp ((hge sq nq).nv nq) len ⟨#[59]⟩);have HG:=zh (fun (W:World) (x:Rp W g len T wd (ex sq).2)=>want_s x ⟨#[59]⟩ (by decide +kernel));clear h e1 hex hge nq k1 k2' k3 hsq hn3 hn2;generalize (st.next.name len)=qn at *;obtain⟨qs,st2⟩:=qn;have hwg:(w.heap.size == g)=false:=by simp;omega
 have hwg1:(w.heap.size+1 == g)=false:=by simp;omega
 go_enter Tryz.func65,Tryz.ntmps65
 go_wp2_with (first
  | (have T9:=zu H;go_at_call 63;refine Calls.mono (zu HIf _ (NS.start T9).rs) ?_;rintro e w0 ⟨rfl,hw⟩;have N0:=zh ((NS.start T9).ext hw);clear hw T9 H)
  | (have T9:=zu N0;go_at_call 35;refine Calls.mono (zu HT_while _ T9.rs) ?_;rintro e w1 ⟨rfl,hs,hw⟩;have N1:=zh (T9.go hs hw);clear hw hs T9 N0)
  | (have T9:=zu N1;go_at_call 35;refine Calls.mono (zu HT_let _ T9.rs) ?_;rintro e w2 ⟨rfl,hs,hw⟩;have N2:=zh (T9.go hs hw);clear hw hs T9 N1)
  | (have T9:=zu N2;go_at_call 34;refine Calls.mono (zu HNm _ T9.rs) ?_;rintro e w3 ⟨rfl,hs,hw⟩;have N3:=zh (T9.go hs hw);have N4:=zh ((zu N3).set 1 qs);have d0:=zr (zu N3).r3 0 rfl;have d1:=zr (zu N3).r3 1 rfl;have d2:=zr (zu N3).r3 2 rfl;have d3:=zr (zu N3).r3 3 rfl;have d4:=zr (zu N3).r3 4 rfl;have dz:=rowF (zu N3).r3;have hlt3:=(zu N3).lt;clear hw hs T9 N2)
  | (have T9:=zu N4;go_at_call 33;refine Calls.mono (zu HEq _ T9.rs) ?_;rintro e w5 ⟨rfl,hs,hw⟩;have N5:=zh (T9.go hs hw);clear d0 d1 d2 d3 d4 dz;clear hw hs T9 N4)
  | (have T9:=zu N5;go_at_call 97;refine Calls.mono (zu HEx _ T9.rs) ?_;rintro e w6 ⟨v,p5,rfl,hr,hp,hs,hw⟩;obtain⟨k2,o2,s2,n2,l2⟩:=p5;rw[RepN] at hr;obtain⟨a2,cap2,rfl,hcap2,hl3⟩:=hr;have N6:=zh (T9.go hs hw);have N7:=zh (T9.row (k:=k2) (o:=o2) (n2:=n2) (s:=s2) hs hw hl3 hcap2);have hlt6:=(zu N6).lt;have P5:=zh hp;have d0:=zr (zu N6).r3 0 rfl;have d1:=zr (zu N6).r3 1 rfl;have d2:=zr (zu N6).r3 2 rfl;have d3:=zr (zu N6).r3 3 rfl;have d4:=zr (zu N6).r3 4 rfl;have dz:=rowF (zu N6).r3;clear hw hs hl3 hp T9 N5)
  | (have T9:=zu N7;go_at_call 33;refine Calls.mono (zu HG _ T9.rs) ?_;rintro e w8 ⟨rfl,hs,hw⟩;have N8:=zh (T9.go hs hw);have r0:=zr (zu N8).r2 0 rfl;have r1:=zr (zu N8).r2 1 rfl;have r2:=zr (zu N8).r2 2 rfl;have r3:=zr (zu N8).r2 3 rfl;have r4:=zr (zu N8).r2 4 rfl;have rz:=rowF (zu N8).r2;have q0:=zr (zu N8).r3 0 rfl;have q1:=zr (zu N8).r3 1 rfl;have q2:=zr (zu N8).r3 2 rfl;have q3:=zr (zu N8).r3 3 rfl;have q4:=zr (zu N8).r3 4 rfl;have qz:=rowF (zu N8).r3;clear hw hs T9 N7))
 exact bodyPost_ret (v:=nodV 1 0 qs 0 (.slice (some ⟨w6.heap.size,0,none⟩) 1 1)) (res_nodR Tryz.results65 _ _ w.heap.size _ _ _ _ _ rfl (zu N8).end) rfl ((zu N8).fin (fun e=>by rw[zu P5 ((zu HKS).ok e).1]))
end
section
variable {w w':World} {g len:Nat} {T:List Tk} {wd:Int} {st:PS}
theorem stmt_while (ex bl ch:Rdr) (hge:GoodR ex) (hgb:GoodR bl) (hse:Shorter ex) (hex:∀ s:PS,s.ts.length < st.ts.length→RIs g len T wd 1 ex s) (hbl:∀ s:PS,s.ts.length < st.ts.length→RBlk g len T wd bl s) (h0:st.e=0) (hW:st.isW ⟨#[119,104,105,108,101]⟩=true) (h:Rp w g len T wd st) :
  Calls Tryz.prog 65 #[.pointer (some ⟨g,0,none⟩)] w (RNode w g len T wd (stmP len ex bl ch st)):=by
 have hg:=h.lt;have w_if:st.isW ⟨#[105,102]⟩=false:=onlyW hW (by decide +kernel);have w_let:st.isW ⟨#[108,101,116]⟩=false:=onlyW hW (by decide +kernel);have w_break:st.isW ⟨#[98,114,101,97,107]⟩=false:=onlyW hW (by decide +kernel);have w_continue:st.isW ⟨#[99,111,110,116,105,110,117,101]⟩=false:=onlyW hW (by decide +kernel);have w_return:st.isW ⟨#[114,101,116,117,114,110]⟩=false:=onlyW hW (by decide +kernel);have w_print:st.isW ⟨#[112,114,105,110,116]⟩=false:=onlyW hW (by decide +kernel);have e1:stmP len ex bl ch st=(⟨4,0,zE,0,[(ex st.next).1,(bl (ex st.next).2).1]⟩,(bl (ex st.next).2).2):=by
  unfold stmP;rw[w_let,notSet hW,w_if,hW];rfl
 rw[e1];have hn1:st.next.ts.length < st.ts.length:=next_lt_of (isW_ne hW);have hn2:=hse st.next;have H:=zh h;have HIf:=zh (fun (W:World) (x:Rp W g len T wd st)=>is_no x h0 ⟨#[105,102]⟩ (by decide +kernel) w_if);have HT_while:=zh (fun (W:World) (x:Rp W g len T wd st)=>take_yes x ⟨#[119,104,105,108,101]⟩ (by decide +kernel) hW);have HEx:=zh (hex st.next hn1);unfold RIs at HEx;have HBl:=zh (hbl (ex st.next).2 (by omega));unfold RBlk at HBl;have nq:=(hge st.next ((next_kp h.nv).nv h.nv)).nv ((next_kp h.nv).nv h.nv);have HKS:=zh (hgb (ex st.next).2 nq);clear h e1 hex hge hgb hse hbl nq hn2;generalize ex st.next=q1 at *;obtain⟨qn,u1⟩:=q1;simp only at *;generalize bl u1=q2 at *;obtain⟨qm,u2⟩:=q2;simp only at *;obtain⟨i0,hi,hz0,hz1,hz2⟩:=info_parts infoN;have HIN:=zh hi;have Z0:=zh hz0;have Z1:=zh hz1
 have Z2:=zh hz2;clear hi hz0 hz1 hz2;have hwg:(w.heap.size == g)=false:=by simp;omega
 have hwg1:(w.heap.size+1 == g)=false:=by simp;omega
 go_enter Tryz.func65,Tryz.ntmps65
 go_wp2_with (first
  | (have T9:=zu H;go_at_call 63;refine Calls.mono (zu HIf _ (NS.start T9).rs) ?_;rintro e w0 ⟨rfl,hw⟩;have N0:=zh ((NS.start T9).ext hw);clear hw T9 H)
  | (have T9:=zu N0;go_at_call 35;refine Calls.mono (zu HT_while _ T9.rs) ?_;rintro e w1 ⟨rfl,hs,hw⟩;have N1:=zh (T9.go hs hw);clear hw hs T9 N0)
  | (have T9:=zu N1;go_at_call 97;refine Calls.mono (zu HEx _ T9.rs) ?_;rintro e w2 ⟨v,p5,rfl,hr,hp,hs,hw⟩;obtain⟨k2,o2,s2,n2,l2⟩:=p5;rw[RepN] at hr;obtain⟨a2,cap2,rfl,hcap2,hl3⟩:=hr;have N2:=zh (T9.go hs hw);have N3:=zh (T9.lit (k:=k2) (o:=o2) (n2:=n2) (s:=s2) hs hw hl3 hcap2 4 zE);have hlt2:=(zu N2).lt;have P5:=zh hp;have d0:=zr (zu N2).r3 0 rfl;have d1:=zr (zu N2).r3 1 rfl;have d2:=zr (zu N2).r3 2 rfl;have d3:=zr (zu N2).r3 3 rfl;have d4:=zr (zu N2).r3 4 rfl;have dz:=rowF (zu N2).r3;clear hw hs hl3 hp T9 N1))
 refine gen_world (F:=fun W=>Code.wp _ _ _ _ W) ?_;intro W9 hW9;have N40:NS g len T wd w W9 (w.heap.size+1) u1 4 zE [⟨k2,o2,s2,n2,l2⟩] 1 (some ⟨w2.heap.size,0,none⟩) 1:=by rw[hW9];exact zu N3
 obtain⟨nA,hnA,N4⟩:∃ m,m≤1∧NS g len T wd w W9 (w.heap.size+1) u1 4 zE [⟨k2,o2,s2,n2,l2⟩] m (some ⟨w2.heap.size,0,none⟩) 1:=⟨_,Nat.le_refl _,N40⟩;have N4:=zh N4;clear N40 hW9 N3;clear N2 d0 d1 d2 d3 d4 dz;obtain⟨xsa,hxs⟩:=(zu N4).own;have HXSa:=zh hxs;clear hxs;have d0:W9.cell? ⟨(w.heap.size+1),0,none⟩=some (.int .i64 4):=zr (zu N4).r3 0 rfl;have d1:W9.cell? ⟨(w.heap.size+1),1,none⟩=some (.int .i64 0):=zr (zu N4).r3 1 rfl;have d2:W9.cell? ⟨(w.heap.size+1),2,none⟩=some (.string zE):=zr (zu N4).r3 2 rfl;have d3:W9.cell? ⟨(w.heap.size+1),3,none⟩=some (.int .i64 0):=zr (zu N4).r3 3 rfl;have d4:W9.cell? ⟨(w.heap.size+1),4,none⟩=some (.slice (some ⟨w2.heap.size,0,none⟩) nA 1):=zr (zu N4).r3 4 rfl;have dz:=rowF (zu N4).r3;have hlta:=(zu N4).lt
 have hBBa:=(zu N4).hB;have hgga:=(zu N4).hg;have D0a:Hd (Gr g W9 W9.drew):=(Gr.refl _ _).drew;have D1a:Hd (Rp W9.drew g len T wd u1):=(zu N4).rs.ext (Ext.drew (Ext.refl _));have HBa:=zh (zu HBl _ (zu D1a));refine wp_nrm ?_
 first | skip;go_region_law (first
  | (refine step_call_one rfl 36 (.tmp 23) 65 rfl _ (by simp[Act.eval,Act.put]) (enterRBlk _ _) (Calls.mono (zu HBa) ?_);rintro e w6a ⟨v,p6,rfl,hr,hp,hs,hw⟩;obtain⟨k3a,o3a,s3a,n3a,l3a⟩:=p6;rw[RepN] at hr;obtain⟨a3a,c3a,rfl,hcap3a,hl⟩:=hr;have X6a:=zh ((zu D0a).trans hw);have RG:=zh ((zu X6a).row (zu N4).r3 (by omega));have d0:=zr (zu RG) 0 rfl;have d1:=zr (zu RG) 1 rfl;have d2:=zr (zu RG) 2 rfl;have d3:=zr (zu RG) 3 rfl;have d4:=zr (zu RG) 4 rfl;have dz:=rowF (zu RG);have S6a:=zh hs;have P6a:=zh hp;have L6a:Hd (RepNL w6a (Fr W9.heap.size w6a.heap.size) l3a a3a):=hl;have hz6a:W9.heap.size≤w6a.heap.size:=hw.size;have hb6a:(w.heap.size+1) < w6a.heap.size:=(Array.getElem?_eq_some_iff.1 (zu RG)).1;clear hw hs hl hp;refine⟨_,rfl,?_⟩)
  | (refine step_append_where rfl (.tmp 22) (.tmp 25) 44 rfl (w.heap.size+1) 46 i0 (nodV 0 0 zE 0 (.slice none 0 0)) 5 64 Tryz.underlying44 (zu HIN) (zu Z0) (zu Z1) (zu Z2) rfl (by decide) (some ⟨w2.heap.size,0,none⟩) nA 1 xsa (by simp[Act.eval,Act.put]) (zu HXSa _ ((zu X6a).alloc _)).1 ⟨w6a.heap.size,0,none⟩ 1 1 [.int .i64 k3a,.int .i64 o3a,.string s3a,.int .i64 n3a,.slice a3a l3a.length c3a] (by simp[Act.eval,Act.put]) (by decide) rfl (cells_new w6a _ _) (one_cells _ _ _ _ _ _ _) (by unfold maxLen;omega) (by omega) (by simp;omega) ?_;intro g2a cap7a w7a ho7 hg7 hw7;have RZ:=zh ((zu N4).grown ((zu X6a).alloc _) hg7);have z0:=zr (zu RZ) 0 rfl;have z1:=zr (zu RZ) 1 rfl;have z2:=zr (zu RZ) 2 rfl;have z3:=zr (zu RZ) 3 rfl;have z4:=zr (zu RZ) 4 rfl;have zz:=rowF (zu RZ);have HO7a:=zh ho7;have HG7a:=zh hg7;have HW7a:=zh hw7;clear ho7 hg7 hw7)) | fail
 all_goals
  refine nrm_inB ?_;have N5:=zh (NS.snocA (k:=k3a) (o:=o3a) (n2:=n3a) (s:=s3a) (zu N4) (zu X6a) (zu S6a) hcap3a (zu L6a) _ (zu HXSa _ ((zu X6a).alloc _)) (zu HO7a) (zu HG7a) (zu HW7a));have r0:=zr (zu N5).r2 0 rfl;have r1:=zr (zu N5).r2 1 rfl;have r2:=zr (zu N5).r2 2 rfl;have r3:=zr (zu N5).r2 3 rfl;have r4:=zr (zu N5).r2 4 rfl;have rz:=rowF (zu N5).r2;have q0:=zr (zu N5).r3 0 rfl;have q1:=zr (zu N5).r3 1 rfl;have q2:=zr (zu N5).r3 2 rfl;have q3:=zr (zu N5).r3 3 rfl;have q4:=zr (zu N5).r3 4 rfl;have qz:=rowF (zu N5).r3
  go_wp2_with fail
  exact bodyPost_ret (v:=nodV 4 0 zE 0 (.slice (some ⟨g2a,0,none⟩) (nA+1) cap7a)) (res_nodR Tryz.results65 _ _ w.heap.size _ _ _ _ _ rfl (zu N5).end) rfl ((zu N5).fin (fun e=>by rw[zu P5 ((zu HKS).ok e).1,zu P6a e];rfl))
end
end Go.Proofs.YtjnpehohialmbaaGreat
