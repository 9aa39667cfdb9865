/- Functions under way in the document's own reader. · The document's Program,at any text. · An expression's text: what parse.Expr answers at any text. · An expression's text: what parse.Expr answers at any text. -/
import Derived.Test.YtgkdmgndebifiaaGreatDoorZd27
import Derived.Test.YtgkdmgndebifiaaGreatDoorZd28
import Derived.Test.YtgkdmgndebifiaaGreatDoorZd31
set_option linter.unusedSimpArgs false
set_option linter.unusedVariables false
set_option maxRecDepth 10000
namespace Go.Proofs.YtgkdmgndebifiaaGreatDoor
open Go.RowKit
variable {w w' wr w2:World} {g len:Nat} {T:List Tk} {wd:Int} {st:PS}
theorem function_r (bl:Rdr) (f:Nat) (hgb:GoodR bl) (hf:st.ts.length < f) (hf2:f ≤ 90000) (hbl:RBlk g len T wd bl (funB len f st).2) (h:Rp w g len T wd st) :
  Calls Tryz.prog 13 #[.pointer (some ⟨g,0,none⟩)] w (RFun w g len T wd (funP len bl f st)):=by
 cases hS:((funA len st).2.sign len ⟨#[40]⟩).isS ⟨#[41]⟩
 ·exact function_some bl f hgb hf hf2 hbl hS h
 ·exact function_none bl f hgb hbl hS h
def widL (l:List PFn):Int:=l.foldl (fun m p => max m (p.ps.length:Int)) 0
theorem widL_snoc (l:List PFn) (p:PFn):widL (l ++ [p]) = max (widL l) (p.ps.length:Int):=by unfold widL;rw [List.foldl_append];rfl
theorem wid_any:∀ (l:List PFn) (m:Int),decide (8 < l.foldl (fun m p => max m (p.ps.length:Int)) m) = (decide (8 < m) || l.any (fun p => decide (8 < p.ps.length)))
 | [],m => by rw [List.any_nil,Bool.or_false];rfl
 | p :: l,m => by
  rw [List.foldl_cons,wid_any l,List.any_cons,← Bool.or_assoc]
  congr 1
  by_cases h1:8 < m <;> by_cases h2:8 < p.ps.length <;> simp [h1,h2] <;> omega
theorem widL_any (l:List PFn):decide (8 < widL l) = l.any (fun p => decide (8 < p.ps.length)):=by
 unfold widL
 rw [wid_any]
 rfl
structure PI (g len:Nat) (T:List Tk) (bl:Rdr) (f:Nat) (w wr:World) (R:List PFn × PS) (wd:Int) (stc:PS) (k:Nat) (acc ps:List PFn) (n:Nat) (ao:Option Addr) (cap:Nat):Prop where
 eq:R = funsP len bl f k acc stc
 np:stc.e = 0 → ps = acc
 hw:stc.e = 0 → wd = widL ps
 hn:ps.length = n
 fuel:stc.ts.length < k
 bnd:n + stc.ts.length ≤ 100001
 hg:g < w.heap.size
 rs:Rp wr g len T wd stc
 gr:Gr g w wr
 own:∃ xs,wr.ownsRow w.heap.size 57 7 (.slice ao n cap) n xs ∧ RowF wr (fun b => w.heap.size ≤ b ∧ b < wr.heap.size ∧ some b ≠ (Value.slice ao n cap).ownBlock) ps xs
theorem PI.snoc {bl:Rdr} {f:Nat} {w3:World} {R:List PFn × PS} {stc:PS} {r:PFn × PS} {j:Nat} {acc fs:List PFn} {N:Nat} {ao:Option Addr} {cap g' cap':Nat} {nm:ByteArray} {ps:List ByteArray} {pa:Option Addr} {pc:Nat} {k o n:Int} {s:ByteArray} {l:List PN} {a:Option Addr} {c:Nat} {xs:List Value} (ob:Obj)
  (h:PI g len T bl f w wr R wd stc (j + 1) acc fs N ao cap) (hq:R = funsP len bl f j (acc ++ [r.1]) r.2) (hk:r.2.e = 0 → stc.e = 0) (hp:r.2.e = 0 → (⟨nm,ps,⟨k,o,s,n,l⟩⟩:PFn) = r.1) (hl:r.2.ts.length < stc.ts.length) (hW:Gr g wr w2) (hS:Rp w2 g len T (widP wd ps.length) r.2) (hpc:ps.length ≤ pc) (hps:RepS w2 (Fr wr.heap.size w2.heap.size) ps pa) (hc:l.length ≤ c) (hll:RepNL w2 (Fr wr.heap.size w2.heap.size) l a)
  (hx:(w2.alloc ob).ownsRow w.heap.size 57 7 (.slice ao N cap) N xs ∧ RowF (w2.alloc ob) (fun b => w.heap.size ≤ b ∧ b < (w2.alloc ob).heap.size ∧ some b ≠ (Value.slice ao N cap).ownBlock) fs xs)
  (ho:w3.ownsRow w.heap.size 57 7 (.slice (some ⟨g',0,none⟩) (N + 1) cap') (N + 1) (xs ++ [.string nm,.slice pa ps.length pc,.int .i64 k,.int .i64 o,.string s,.int .i64 n,.slice a l.length c]))
  (hgw:(w2.alloc ob).grownBy w3 (Value.slice ao N cap).ownBlock) (hw:(Value.slice ao N cap).ownBlock = some g' ∨ (w2.alloc ob).heap.size ≤ g') :
  PI g len T bl f w w3 R (widP wd ps.length) r.2 j (acc ++ [r.1]) (fs ++ [⟨nm,ps,⟨k,o,s,n,l⟩⟩]) (N + 1) (some ⟨g',0,none⟩) cap':=by
 have hg:=h.hg
 have hz:(w2.alloc ob).heap.size = w2.heap.size + 1:=size_alloc _ _
 have hn:=h.hn
 have G3:Gr g w w3:=Gr.append ((h.gr.trans hW).alloc ob) hx.1 (Nat.le_refl _) hgw
 have S3:Rp w3 g len T (widP wd ps.length) r.2:=(hS.ext (Ext.alloc _ ob)).append hg hx.1 hgw
 have hsz:=h.gr.size
 have hF:∀ b,(w.heap.size ≤ b ∧ b < (w2.alloc ob).heap.size ∧ some b ≠ (Value.slice ao N cap).ownBlock) →
   (w.heap.size ≤ b ∧ b < w3.heap.size ∧ some b ≠ (Value.slice (some ⟨g',0,none⟩) (N + 1) cap').ownBlock) ∧ w3.heap[b]? = (w2.alloc ob).heap[b]?:=by
  intro b hb
  refine ⟨⟨hb.1,Nat.lt_of_lt_of_le hb.2.1 hgw.size,?_⟩,hgw.block b hb.2.1 hb.2.2⟩
  intro e
  simp only [Value.ownBlock,Option.some.injEq] at e
  rcases hw with e2 | e2
  ·exact hb.2.2 (by rw [e2,e])
  ·have:=hb.2.1;omega
 have hE:∀ b,Fr wr.heap.size w2.heap.size b → (w.heap.size ≤ b ∧ b < (w2.alloc ob).heap.size ∧ some b ≠ (Value.slice ao N cap).ownBlock) ∧ (w2.alloc ob).heap[b]? = w2.heap[b]?:=by
  intro b hb
  obtain ⟨ys,hy,_⟩:=h.own
  exact ⟨⟨by have:=hb.1;omega,by have:=hb.2;omega,fun e => by have:=(hy.lt b e.symm).2;have:=hb.1;omega⟩,(Ext.alloc w2 ob).block b hb.2⟩
 refine ⟨hq,fun e => by rw [h.np (hk e),hp e],fun e => by rw [widL_snoc,h.hw (hk e)],by simp [hn],by have:=h.fuel;omega,by have:=h.bnd;omega,hg,S3,G3,_,ho,RowF.snoc (p:=⟨nm,ps,⟨k,o,s,n,l⟩⟩) hpc ((hps.to hE).to hF) hc (RepNL.to hF _ _ (RepNL.to hE _ _ hll)) (RowF.to hF hx.2)⟩
def RToldF (q:List PFn × PS) (w:World) (e:Ending) (w':World):Prop :=
 Ext w w' ∧ ((q.2.e ≠ 0 ∧ e = .returned (tolV (.slice none 0 0) 0 0 emptyB 0 (.slice none 0 0) q.2.pl q.2.e)) ∨
  (q.2.e = 0 ∧ tooP q.1 = true ∧ e = .returned (tolV (.slice none 0 0) 0 0 emptyB 0 (.slice none 0 0) 0 65)) ∨
  (q.2.e = 0 ∧ tooP q.1 = false ∧ ∃ a cap,e = .returned (tolV (.slice a q.1.length cap) 0 0 emptyB 0 (.slice none 0 0) 0 0) ∧ q.1.length ≤ cap ∧ RepFL w' (InW w') q.1 a))
set_option maxHeartbeats 4000000 in
theorem rprog_err (s:ByteArray) (f:Nat) (w:World) (P E:Int) (hE:E ≠ 0) (hx:(rdP s f).2.e = E ∧ (rdP s f).2.pl = P) (hT:∀ W,Calls Tryz.prog 12 #[.string s] W fun e w' => e = .returned (.agg #[.slice none 0 0,.int .i64 P,.int .i64 E]) ∧ Ext W w'):Calls Tryz.prog 5 #[.string s] w (RToldF (rdP s f) w):=by
 have HX:=hide hx
 have HT:=hide hT
 have HE:=hide hE
 have he1:(E == 0) = false:=by simpa using hE
 have he2:(E != 0) = true:=by simp [hE]
 clear hx hT hE
 go_enter Tryz.func5,Tryz.ntmps5
 go_wp2_with (go_at_call 12;refine Calls.mono (unhide HT _) ?_;rintro e w1 ⟨rfl,hw⟩;have X1:=hide ((Ext.alloc _ _).trans hw);have R1:=hide (hw.row (Go.heap_alloc_new w _));have hz1:w.heap.size < w1.heap.size:=(Array.getElem?_eq_some_iff.1 (unhide R1)).1;have r0:=rowC (unhide R1) 0 rfl;have r1:=rowC (unhide R1) 1 rfl;have r2:=rowC (unhide R1) 2 rfl;have r3:=rowC (unhide R1) 3 rfl;have r4:=rowC (unhide R1) 4 rfl;have r5:=rowC (unhide R1) 5 rfl;have r6:=rowC (unhide R1) 6 rfl;have r7:=rowC (unhide R1) 7 rfl;have rz:=rowF (unhide R1);clear hw)
 have hrowF:=(Ext.alloc (set8 w1 w.heap.size (.slice none 0 0) 0 0 emptyB 0 (.slice none 0 0) P E) (.cells #[.slice none 0 0,.int .i64 P,.int .i64 E] 50)).row (set8_row (unhide R1) (.slice none 0 0) 0 0 emptyB 0 (.slice none 0 0) P E)
 exact bodyPost_ret (v:=tolV (.slice none 0 0) 0 0 emptyB 0 (.slice none 0 0) P E) (res_told Tryz.results5 _ _ w.heap.size _ _ _ _ _ _ _ _ rfl rfl rfl hrowF) rfl ⟨(set8_ext (unhide X1) (Nat.le_refl _) _ _ _ _ _ _ _ _).trans (Ext.alloc _ _),Or.inl ⟨by rw [(unhide HX).1];exact unhide HE,by rw [(unhide HX).1,(unhide HX).2]⟩⟩
theorem rd_bad {s:ByteArray} {f:Nat} (nv:Nv (begP s)) (h:(begP s).e ≠ 0):(rdP s f).2.e = (begP s).e ∧ (rdP s f).2.pl = (begP s).pl :=
 (funs_kp s.size (sts_kp s.size f f).2.1 f f [] (begP s) nv).bad h
end Go.Proofs.YtgkdmgndebifiaaGreatDoor
namespace Go.Proofs.YtgkdmgndebifiaaGreatDoor
open Go.RowKit
set_option maxHeartbeats 8000000 in
theorem rprog_ok (s:ByteArray) (f:Nat) (w:World) (hs:s.size ≤ 4000) (hn:(lexF (s.size + 1) s 0).2 = none) (hf:(begP s).ts.length < f) (hf2:f ≤ 90000):Calls Tryz.prog 5 #[.string s] w (RToldF (rdP s f) w):=by
 have hb:=begP_good hs hn
 have hTl:=lexF_len (s.size + 1) s 0
 have htk:=lexF_ok s (s.size + 1)
 have HT:Hd (∀ W,Calls Tryz.prog 12 #[.string s] W fun e w' => ∃ a cap,e = .returned (.agg #[.slice a (lexF (s.size + 1) s 0).1.length cap,.int .i64 0,.int .i64 0]) ∧ (∀ W2 g,Ext w' W2 → w'.heap.size ≤ g → Sl W2 g (.slice a (lexF (s.size + 1) s 0).1.length cap) (lexF (s.size + 1) s 0).1) ∧ Ext W w'):=fun W => by
  refine Calls.mono (rtokens_any s W (by omega)) ?_
  rintro e w' (⟨h9,_⟩ | ⟨_,b,h9,_⟩ | ⟨_,_,v,base,rfl,hbs,hown,hw⟩)
  ·omega
  ·rw [hn] at h9;cases h9
  ·obtain ⟨a,cap,rfl,h9⟩:=Sl.ownR hown
   exact ⟨a,cap,rfl,h9,hw⟩
 obtain ⟨bl,hbl⟩:∃ bl,bl = (stsP s.size f f).2.1:=⟨_,rfl⟩
 obtain ⟨RS,hRS⟩:∃ RS,RS = rdP s f:=⟨_,rfl⟩
 rw [← hRS]
 unfold rdP at hRS
 rw [hb,← hbl] at hRS
 rw [hb] at hf
 generalize (lexF (s.size + 1) s 0).1 = T at *
 simp only at hf
 have HGB:Hd (GoodR bl):=by rw [Hd,hbl];exact (sts_kp s.size f f).2.1
 have HSH:Hd (Shorter bl):=by rw [Hd,hbl];exact (sts_le s.size f f).2.1
 have HFun:Hd (∀ (g:Nat) (wd:Int) (st:PS) (W:World),st.ts ≠ [] → st.ts.length ≤ T.length → Rp W g s.size T wd st → Calls Tryz.prog 13 #[.pointer (some ⟨g,0,none⟩)] W (RFun W g s.size T wd (funP s.size bl f st))):=fun g wd st W hne hl x => by
  have q:=funB_lt (len:=s.size) (f:=f) hne
  refine function_r bl f (unhide HGB) (by omega) hf2 ?_ x
  rw [hbl]
  exact rblk f (by omega) _ (by omega)
 have HRp:Hd (∀ W g V,W.heap[g]? = some (rpO V 0 0 0 0 s.size 0) → Sl W g V T → Rp W g s.size T 0 ⟨T,0,0,0⟩):=fun W g V h1 h2 => ⟨⟨V,0,0,0,h1,h2,Nat.zero_le _,fun _ => ⟨rfl,rfl⟩,fun e => absurd rfl e⟩,⟨fun _ => ⟨(show (0:Int) ≤ 0 by decide),(show (0:Int) ≤ 24 by decide)⟩,fun e => absurd rfl e⟩,htk,by omega⟩
 have HRS:=hide hRS
 clear hRS hb hn htk hbl
 obtain ⟨i0,hi,hz0,hz1,hz2⟩:=info_parts infoF
 have HI:=hide hi
 have Z0:=hide hz0
 have Z1:=hide hz1
 have Z2:=hide hz2
 clear hi hz0 hz1 hz2
 go_enter Tryz.func5,Tryz.ntmps5
 go_wp2_with (go_at_call 12;refine Calls.mono (unhide HT _) ?_;rintro e w1 ⟨a,cap,rfl,hsl,hw⟩;have X1:=hide ((Ext.alloc _ _).trans hw);have R1:=hide (hw.row (Go.heap_alloc_new w _));have HSl:=hide hsl;have hz1:w.heap.size < w1.heap.size:=(Array.getElem?_eq_some_iff.1 (unhide R1)).1;clear hw hsl)
 obtain ⟨W2,hW2⟩:∃ W2,W2 = ((w1.alloc (.cells #[.slice a T.length cap,.int .i64 0,.int .i64 0] 50)).alloc (rpO (.slice a T.length cap) 0 0 0 0 s.size 0)):=⟨_,rfl⟩
 have hX2:Ext w1 W2:=by rw [hW2];exact (Ext.alloc _ _).trans (Ext.alloc _ _)
 have hrow2:W2.heap[w1.heap.size + 1]? = some (rpO (.slice a T.length cap) 0 0 0 0 s.size 0):=by
  have:=Go.heap_alloc_new (w1.alloc (.cells #[.slice a T.length cap,.int .i64 0,.int .i64 0] 50)) (rpO (.slice a T.length cap) 0 0 0 0 s.size 0)
  rw [size_alloc] at this
  rw [hW2];exact this
 have hP2:=unhide HRp W2 (w1.heap.size + 1) _ hrow2 (unhide HSl W2 _ hX2 (by omega))
 have R2:=hide (hX2.row (unhide R1))
 have X2:=hide ((unhide X1).trans hX2)
 have hg2:w1.heap.size + 1 < W2.heap.size:=hP2.lt
 have MI:Hd (PI (w1.heap.size + 1) s.size T bl f W2 W2 RS 0 ⟨T,0,0,0⟩ f [] [] 0 none 0):=⟨unhide HRS,fun _ => rfl,fun _ => rfl,rfl,hf,by show 0 + T.length ≤ 100001;omega,hg2,hP2,Gr.refl _ _,[],World.ownsRow_nil _ _ _ _,rfl⟩
 refine gen_world (F:=fun W => Code.wp _ _ _ _ W) ?_
 intro W9 hW9
 obtain rfl:W9 = W2:=hW9.trans hW2.symm
 clear hW2 hX2 hrow2 hP2 hW9 HRp HSl HT X1 R1 HRS
 go_loopw [5] (fun t wr => ∃ (acc ps:List PFn) (nq:Nat) (ao:Option Addr) (cap:Nat) (wd:Int) (stc:PS) (j:Nat),t = .slice ao nq cap ∧ Hd (PI (w1.heap.size + 1) s.size T bl f W9 wr RS wd stc j acc ps nq ao cap) ∧ stc.ts.length ≤ T.length) (fun _ wr => rleft (w1.heap.size + 1) T.length wr)
 case atStart => exact ⟨[],[],0,none,0,0,⟨T,0,0,0⟩,f,rfl,MI,Nat.le_refl _⟩
 case round =>
  clear MI
  obtain ⟨acc,ps,nq,ao,cap,wd,stc,j,rfl,hM,hle⟩:=hrel
  have hnvc:=(unhide hM).rs.nv
  have hfu:=(unhide hM).fuel
  have hbd:=(unhide hM).bnd
  have hgrz:=(unhide hM).gr.size
  obtain ⟨j,rfl⟩:∃ i,j = i + 1:=⟨j - 1,by omega⟩
  have hm0:=rleft_eq (unhide hM).rs
  have RR:=hide ((unhide hM).gr.row (unhide R2) (by omega))
  obtain ⟨V,i,pl,dp,hrow,hSl,hiT,h4,h5⟩:=(unhide hM).rs.ex
  obtain ⟨a4,cap4,rfl,_⟩:=hSl
  by_cases hec:stc.e = 0
  ·rw [hec] at hrow
   rw [if_pos hec] at hm0
   obtain ⟨c0,c1,c2,c3,c4,c5,c6,zf⟩:=rp_c hrow
   have hdr:=(h4 hec).1
   by_cases hts:stc.ts = []
   ·have hi:¬ i < T.length:=by
     intro h9
     rw [hts] at hdr
     have h8:=List.drop_eq_nil_iff.1 hdr
     omega
    have hnp:=(unhide hM).np hec
    have hwd:=(unhide hM).hw hec
    have hR:RS = (ps,stc):=by rw [(unhide hM).eq,funsP,hts,hnp];rfl
    have HR1:Hd (RS.1 = ps):=by rw [Hd,hR]
    have HR2:Hd (RS.2.e = 0):=by rw [Hd,hR];exact hec
    have htoo:tooP ps = (decide (16 < ps.length) || decide (8 < wd)):=by unfold tooP;rw [hwd,widL_any]
    rw [(unhide hM).hn] at htoo
    obtain ⟨d1,d2⟩:nq ≤ cap ∧ RepFL wr (Fr W9.heap.size wr.heap.size) ps ao:=by
     have h9:=(unhide hM).own
     have hn9:=(unhide hM).hn
     subst hn9
     exact own_F h9
    have hn9:=(unhide hM).hn
    have HN9:=hide hn9
    have FL:=hide d2
    have hi2:¬ (i:Int) < (T.length:Int):=by omega
    have hi3:decide ((i:Int) < (T.length:Int)) = false:=by simp;omega
    have c6':=c6
    have c2':=c2
    clear hR hnp hwd hrow h4 h5 hdr hi hm0 d2 hn9
    have HW:Nonempty (RGw wr):=⟨⟨wr,Ext.refl _⟩⟩
    have k0:∀ y:RGw wr,y.w.cell? ⟨w1.heap.size + 1,0,none⟩ = some (.slice a4 T.length cap4):=fun y => y.h.cell c0
    have k1:∀ y:RGw wr,y.w.cell? ⟨w1.heap.size + 1,1,none⟩ = some (.int .i64 (i:Int)):=fun y => y.h.cell c1
    have k2:∀ y:RGw wr,y.w.cell? ⟨w1.heap.size + 1,2,none⟩ = some (.int .i64 0):=fun y => y.h.cell c2
    clear c0 c1 c2 c3 c4 c5 c6 zf
    go_wp2_with fail
    refine wp_region_rx (W:=wr) (by kernel_rfl) (by kernel_rfl) (Ext.refl _) ?_
    repeat (go_big_quiet_step (fail))
    refine wpQuiet_nil ?_
    rintro w4 ⟨n4,hn4⟩
    have hx4:Ext wr w4:=hn4 ▸ n4.h
    have X4:=hide hx4
    clear hn4 n4 k0 k1 k2 HW hx4
    have RR4:=hide ((unhide X4).row (unhide RR))
    have d6:=(unhide X4).cell c6'
    have d2:=(unhide X4).cell c2'
    clear c6' c2' RR
    have r0:=rowC (unhide RR4) 0 rfl
    have r1:=rowC (unhide RR4) 1 rfl
    have r2:=rowC (unhide RR4) 2 rfl
    have r3:=rowC (unhide RR4) 3 rfl
    have r4:=rowC (unhide RR4) 4 rfl
    have r5:=rowC (unhide RR4) 5 rfl
    have r6:=rowC (unhide RR4) 6 rfl
    have r7:=rowC (unhide RR4) 7 rfl
    have rz:=rowF (unhide RR4)
    have XW:=hide (((unhide X2).gr (unhide hM).gr (by omega)).trans (unhide X4))
    have hzw:w.heap.size < W9.heap.size:=by omega
    have hm16:∀ x:Bool,decide (16 < nq) = x → decide ((16:Int) < (nq:Int)) = x:=fun x hx => by rw [← hx];by_cases h9:16 < nq <;> simp [h9] <;> omega
    cases h16:decide (16 < nq)
    ·have h16b:=hm16 _ h16
     cases h8:decide (8 < wd)
     ·have HTo:Hd (tooP RS.1 = false):=by rw [Hd,unhide HR1,htoo,h16,h8];rfl
      have h8p:¬ 8 < wd:=by simpa using h8
      have h16p:¬ (16:Int) < (nq:Int):=by simpa using h16b
      clear h16 htoo hm16
      go_wp2_with fail
      refine bodyPost_ret (v:=tolV (.slice ao nq cap) 0 0 emptyB 0 (.slice none 0 0) 0 0) (res_told Tryz.results5 _ _ w.heap.size _ _ _ _ _ _ _ _ rfl rfl rfl (set8_row (unhide RR4) _ _ _ _ _ _ _ _)) rfl ⟨set8_ext (unhide XW) (Nat.le_refl _) _ _ _ _ _ _ _ _,Or.inr (Or.inr ⟨unhide HR2,unhide HTo,ao,cap,?_,?_,?_⟩)⟩
      ·rw [unhide HR1,unhide HN9]
      ·rw [unhide HR1,unhide HN9];exact d1
      ·rw [unhide HR1]
       refine RepFL.to (fun b hb => ?_) (unhide FL)
       have q1:=hb.1
       have q2:=hb.2
       have q3:=(unhide X4).size
       exact ⟨by show b < _;rw [set8_size];omega,(set8_block (by omega) _ _ _ _ _ _ _ _).trans ((unhide X4).block b q2)⟩
     ·have HTo:Hd (tooP RS.1 = true):=by rw [Hd,unhide HR1,htoo,h16,h8];rfl
      have h8p:8 < wd:=by simpa using h8
      have h16p:¬ (16:Int) < (nq:Int):=by simpa using h16b
      clear h16 htoo hm16
      go_wp2_with fail
      exact bodyPost_ret (v:=tolV (.slice none 0 0) 0 0 emptyB 0 (.slice none 0 0) 0 65) (res_told Tryz.results5 _ _ w.heap.size _ _ _ _ _ _ _ _ rfl rfl rfl (set8_row (unhide RR4) _ _ _ _ _ _ _ _)) rfl ⟨set8_ext (unhide XW) (Nat.le_refl _) _ _ _ _ _ _ _ _,Or.inr (Or.inl ⟨unhide HR2,unhide HTo,rfl⟩)⟩
    ·have h16b:=hm16 _ h16
     have HTo:Hd (tooP RS.1 = true):=by rw [Hd,unhide HR1,htoo,h16];rfl
     have h16p:(16:Int) < (nq:Int):=by simpa using h16b
     clear h16 htoo hm16
     go_wp2_with fail
     exact bodyPost_ret (v:=tolV (.slice none 0 0) 0 0 emptyB 0 (.slice none 0 0) 0 65) (res_told Tryz.results5 _ _ w.heap.size _ _ _ _ _ _ _ _ rfl rfl rfl (set8_row (unhide RR4) _ _ _ _ _ _ _ _)) rfl ⟨set8_ext (unhide XW) (Nat.le_refl _) _ _ _ _ _ _ _ _,Or.inr (Or.inl ⟨unhide HR2,unhide HTo,rfl⟩)⟩
   ·have hi:i < T.length:=by
     apply Nat.lt_of_not_le
     intro h9
     exact hts (by rw [← hdr];exact List.drop_eq_nil_of_le h9)
    have hz:((stc.ts.length:Int) == 0) = false:=by have:=List.length_pos_iff.2 hts;simp;exact hts
    have hEq:RS = funsP s.size bl f j (acc ++ [(funP s.size bl f stc).1]) (funP s.size bl f stc).2:=by rw [(unhide hM).eq,funsP,hz];rfl
    have HEq:=hide hEq
    have hl1:=fun_lt (len:=s.size) (f:=f) (unhide HSH) hts
    have HKp:=hide (fun_kp s.size (unhide HGB) f stc hnvc)
    have HFn:=hide (fun (W:World) (x:Rp W (w1.heap.size + 1) s.size T wd stc) => unhide HFun (w1.heap.size + 1) wd stc W hts hle x)
    have hi2:(i:Int) < (T.length:Int):=by omega
    have hi3:decide ((i:Int) < (T.length:Int)) = true:=by simp;omega
    obtain ⟨xs,hx⟩:=(unhide hM).own
    have HXS:=hide (fun w2 (x:Gr (w1.heap.size + 1) wr w2) => heldF_on hx x (unhide hM).hg)
    have hst0:(if (funP s.size bl f stc).2.e = 0 then 1 + (funP s.size bl f stc).2.ts.length else 0) < 1 + stc.ts.length:=by split <;> omega
    clear hEq hrow h4 h5 hdr hi hz hx
    generalize funP s.size bl f stc = q at *
    have HW:Nonempty (RGw wr):=⟨⟨wr,Ext.refl _⟩⟩
    have k0:∀ y:RGw wr,y.w.cell? ⟨w1.heap.size + 1,0,none⟩ = some (.slice a4 T.length cap4):=fun y => y.h.cell c0
    have k1:∀ y:RGw wr,y.w.cell? ⟨w1.heap.size + 1,1,none⟩ = some (.int .i64 (i:Int)):=fun y => y.h.cell c1
    have k2:∀ y:RGw wr,y.w.cell? ⟨w1.heap.size + 1,2,none⟩ = some (.int .i64 0):=fun y => y.h.cell c2
    clear c0 c1 c2 c3 c4 c5 c6 zf
    go_wp2_with fail
    refine wp_region_rx (W:=wr) (by kernel_rfl) (by kernel_rfl) (Ext.refl _) ?_
    repeat (go_big_quiet_step (fail))
    refine wpQuiet_nil ?_
    rintro w4 ⟨n4,hn4⟩
    have hx4:Ext wr w4:=hn4 ▸ n4.h
    have X4:=hide hx4
    clear hn4 n4 k0 k1 k2 HW hx4
    go_wp2_with (first
     | (have T9:=unhide X4;go_at_call 13;refine Calls.mono (unhide HFn _ ((unhide hM).rs.ext T9)) ?_;rintro e w5 ⟨v,p,rfl,⟨pa,pc,a5,c5,rfl,hpc,hps,hcap5,hll⟩,hp,hs5,hw⟩;obtain ⟨nm,psx,⟨k,o,sx,n,l⟩⟩:=p;simp only at hpc hps hcap5 hll hp hs5;have S5:=hide hs5;have X5:=hide ((Gr.of (g:=w1.heap.size + 1) T9).trans hw);have P5:=hide hp;have q9:=T9.size;have PS5:Hd (RepS w5 (Fr wr.heap.size w5.heap.size) psx pa):=hps.to (fun b hb => ⟨⟨by have:=hb.1;omega,hb.2⟩,rfl⟩);have L5:Hd (RepNL w5 (Fr wr.heap.size w5.heap.size) l a5):=RepNL.to (fun b hb => ⟨⟨by have:=hb.1;omega,hb.2⟩,rfl⟩) _ _ hll;have hz5:wr.heap.size ≤ w5.heap.size:=(unhide X5).size;clear hw hs5 hps hll hp T9 X4 q9)
     | (at_builtin;refine wpList_append_where rfl (.tmp 39) (.tmp 42) 22 rfl W9.heap.size 57 i0 (funV emptyB none 0 0 0 0 emptyB 0 none 0 0) 7 104 Tryz.underlying22 (unhide HI) (unhide Z0) (unhide Z1) (unhide Z2) rfl (by decide) ao nq cap xs rfl (unhide HXS _ ((unhide X5).alloc _)).1 ⟨w5.heap.size,0,none⟩ 1 1 [.string nm,.slice pa psx.length pc,.int .i64 k,.int .i64 o,.string sx,.int .i64 n,.slice a5 l.length c5] rfl (by decide) rfl (cells_new w5 _ _) (one_fun _ _ _ _ _ _ _ _ _ _ _) ?c1 ?c2 ?c3 ?_))
    case c1 => unfold maxLen;omega
    case c2 => omega
    case c3 => simp;omega
    intro g2 cap6 w6 ho6 hg6 hw6
    have MN:=hide (PI.snoc (r:=q) _ (unhide hM) (unhide HEq) (fun e => ((unhide HKp).ok e).1) (unhide P5) hl1 (unhide X5) (unhide S5) hpc (unhide PS5) hcap5 (unhide L5) (unhide HXS _ ((unhide X5).alloc _)) ho6 hg6 (by rw [size_alloc];exact hw6))
    have hm1:=rleft_eq (unhide MN).rs
    clear ho6 hg6 hw6
    go_wp2_with fail
    go_roundw
    case rel => exact ⟨_,_,_,_,_,_,q.2,j,rfl,MN,by omega⟩
    case measure => rw [hm0];exact Nat.lt_of_le_of_lt (Nat.le_of_eq hm1) hst0
  ·have he2:(stc.e == 0) = false:=by simpa using hec
   have he3:(stc.e != 0) = true:=by simp [hec]
   have hts:=hnvc.nil hec
   have hR:RS = (acc,stc):=by rw [(unhide hM).eq,funsP,hts];rfl
   have HE1:Hd (RS.2.e = stc.e):=by rw [Hd,hR]
   have HE2:Hd (RS.2.pl = stc.pl):=by rw [Hd,hR]
   have HEN:=hide hec
   obtain ⟨c0,c1,c2,c3,c4,c5,c6,zf⟩:=rp_c hrow
   have c3':=c3
   rw [h5 hec] at c3'
   have c2':=c2
   clear hR hrow h4 h5 hm0 hec
   have HW:Nonempty (RGw wr):=⟨⟨wr,Ext.refl _⟩⟩
   have k0:∀ y:RGw wr,y.w.cell? ⟨w1.heap.size + 1,0,none⟩ = some (.slice a4 T.length cap4):=fun y => y.h.cell c0
   have k1:∀ y:RGw wr,y.w.cell? ⟨w1.heap.size + 1,1,none⟩ = some (.int .i64 (i:Int)):=fun y => y.h.cell c1
   have k2:∀ y:RGw wr,y.w.cell? ⟨w1.heap.size + 1,2,none⟩ = some (.int .i64 stc.e):=fun y => y.h.cell c2
   clear c0 c1 c2 c3 c4 c5 c6 zf
   go_wp2_with fail
   refine wp_region_rx (W:=wr) (by kernel_rfl) (by kernel_rfl) (Ext.refl _) ?_
   repeat (go_big_quiet_step (fail))
   refine wpQuiet_nil ?_
   rintro w4 ⟨n4,hn4⟩
   have hx4:Ext wr w4:=hn4 ▸ n4.h
   have X4:=hide hx4
   clear hn4 n4 k0 k1 k2 HW hx4
   have RR4:=hide ((unhide X4).row (unhide RR))
   have d2:=(unhide X4).cell c2'
   have d3:=(unhide X4).cell c3'
   clear c2' c3' RR
   have r0:=rowC (unhide RR4) 0 rfl
   have r1:=rowC (unhide RR4) 1 rfl
   have r2:=rowC (unhide RR4) 2 rfl
   have r3:=rowC (unhide RR4) 3 rfl
   have r4:=rowC (unhide RR4) 4 rfl
   have r5:=rowC (unhide RR4) 5 rfl
   have r6:=rowC (unhide RR4) 6 rfl
   have r7:=rowC (unhide RR4) 7 rfl
   have rz:=rowF (unhide RR4)
   have XW:=hide (((unhide X2).gr (unhide hM).gr (by omega)).trans (unhide X4))
   have hwg:(w.heap.size == w1.heap.size + 1) = false:=by simp;omega
   go_wp2_with fail
   refine wp_nrm ?_
   first | skip;go_region_law (first | fail) | fail
   all_goals
    refine nrm_in ?_
    go_wp2_with fail
    have hrowF:(set8 w4 w.heap.size (.slice none 0 0) 0 0 emptyB 0 (.slice none 0 0) stc.pl stc.e).drew.heap[w.heap.size]? = some (tolO (.slice none 0 0) 0 0 emptyB 0 (.slice none 0 0) stc.pl stc.e):=(Ext.drew (Ext.refl _)).row (set8_row (unhide RR4) _ _ _ _ _ _ _ _)
    exact bodyPost_ret (v:=tolV (.slice none 0 0) 0 0 emptyB 0 (.slice none 0 0) stc.pl stc.e) (res_told Tryz.results5 _ _ w.heap.size _ _ _ _ _ _ _ _ rfl rfl rfl hrowF) rfl ⟨(set8_ext (unhide XW) (Nat.le_refl _) _ _ _ _ _ _ _ _).drew,Or.inl ⟨by rw [unhide HE1];exact unhide HEN,by rw [unhide HE1,unhide HE2]⟩⟩
end Go.Proofs.YtgkdmgndebifiaaGreatDoor
namespace Go.Proofs.YtgkdmgndebifiaaGreatDoor
open Go.RowKit
def finP (len:Nat) (st:PS):PS:=if st.ts.length = 0 then st else st.fail len 10
def xrP (s:ByteArray) (f:Nat):PN × PS:=((exP s.size f (begP s)).1,finP s.size (exP s.size f (begP s)).2)
end Go.Proofs.YtgkdmgndebifiaaGreatDoor
namespace Go.Proofs.YtgkdmgndebifiaaGreatDoor
open Go.RowKit
theorem St.apart {w:World} {g len N:Nat} {st:PS} (h:St w g len st) (hN:w.heap[N]? = some (nodO 0 0 ⟨#[]⟩ 0 (.slice none 0 0))) (hne:N ≠ g) (w':World) (hk:∀ b,b ≠ N → w'.heap[b]? = w.heap[b]?):St w' g len st:=by
 obtain ⟨T,h1,a,cap,rfl,h3,h4,h5⟩:=h.ex
 refine ⟨_,(hk g (fun e => hne e.symm)).trans h1,a,cap,rfl,h3,h4,?_⟩
 rcases h5 with h5 | ⟨b,off,rfl,hb,hc⟩
 ·exact Or.inl h5
 ·cases hts:st.ts with
  | nil => exact Or.inl rfl
  | cons x r =>
   refine Or.inr ⟨b,off,rfl,hb,?_⟩
   rw [hts] at hc
   by_cases hbN:b = N
   ·exfalso
    subst hbN
    have c1:=hc 1 (.string x.t) (by simp [tkC])
    have c3:=hc 3 (.int .i64 x.o) (by simp [tkC])
    rw [cell_of_row w b _ _ _ (0,0) hN] at c1 c3
    match off,c1,c3 with
    | 0,c1,_ => simp at c1
    | 1,_,c3 => simp at c3
    | 2,c1,_ => simp at c1
    | 3,c1,_ => simp at c1
    | off + 4,c1,_ => simp at c1
   ·intro j u hu
    rw [World.cell?_of_block (w:=w) (hk b hbN)]
    exact hc j u hu
def ExprOf (q:PN × PS) (w:World) (e:Ending) (w':World):Prop :=
 Ext w w' ∧ ((q.2.e ≠ 0 ∧ e = .returned (.tuple #[.agg #[.int .i64 0,.int .i64 0,.string ⟨#[]⟩,.int .i64 0,.slice none 0 0],.int .i64 q.2.pl,.int .i64 q.2.e])) ∨
  (q.2.e = 0 ∧ ∃ v,e = .returned (.tuple #[v,.int .i64 0,.int .i64 0]) ∧ RepN w' (Fr w.heap.size w'.heap.size) q.1 v))
end Go.Proofs.YtgkdmgndebifiaaGreatDoor
