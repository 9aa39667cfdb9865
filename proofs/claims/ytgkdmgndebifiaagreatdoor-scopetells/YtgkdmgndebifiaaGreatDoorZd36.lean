/- What a name that is called leads to. · What a node asks for ahead of its parts,and behind them. · What a node asks for behind its parts. · Through a tree: what is open,as a row. -/
import Derived.Test.YtgkdmgndebifiaaGreatDoorZd35
import Derived.Deep.LoopGhost
set_option linter.unusedSimpArgs false
set_option linter.unusedVariables false
set_option maxRecDepth 10000
namespace Go.Proofs.YtgkdmgndebifiaaGreatDoor
open Go.RowKit Go.Maps
structure Ctx (w:World) (col:Nat → Nat) (M:Nat) (fv:Value) (nm:List (ByteArray × Int)) (fs:List PFn):Prop where
 tbl:Tbl w
 g0:col 0 = 0
 g1:col 1 = 0
 map:∃ n,MapIs w M n nm
 cM:col M = 0
 fns:∃ fa fcap,fv = .slice fa fs.length fcap ∧ fs.length ≤ fcap ∧ RepFL w (fun k => col k = 0 ∧ k < w.heap.size) fs fa
 num:∀ s i,lkp nm s = some i → 0 ≤ i ∧ i.toNat < fs.length
 bnd:fs.length ≤ 100001
theorem Ctx.on {w w':World} {col col':Nat → Nat} {M:Nat} {fv:Value} {nm:List (ByteArray × Int)} {fs:List PFn} (h:Ctx w col M fv nm fs) (k:Wk col col' w w'):Ctx w' col' M fv nm fs:=by
 have hc:∀ b o (u:Value),col b = 0 → w.cell? ⟨b,o,none⟩ = some u → w'.cell? ⟨b,o,none⟩ = some u:=fun b o u h0 hu => by
  rw [World.cell?_of_block (w:=w) (k.keep b (World.block_lt_of_cell? w ⟨b,o,none⟩ hu) h0)];exact hu
 obtain ⟨n,hm⟩:=h.map
 obtain ⟨fa,fcap,e,hf,hr⟩:=h.fns
 have l0:0 < w.heap.size:=World.block_lt_of_cell? w ⟨0,0,none⟩ (h.tbl.bi 0 _ rfl)
 have l1:1 < w.heap.size:=World.block_lt_of_cell? w ⟨1,13,none⟩ (h.tbl.nm 0 _ rfl)
 exact ⟨⟨fun j v hv => hc _ _ _ h.g0 (h.tbl.bi j v hv),fun j x hx => hc _ _ _ h.g1 (h.tbl.nm j x hx)⟩,(k.same _ l0).trans h.g0,(k.same _ l1).trans h.g1,⟨n,hm.keep (k.keep M hm.lt h.cM)⟩,(k.same M hm.lt).trans h.cM,⟨fa,fcap,e,hf,hr.to (fun b hb => ⟨⟨(k.same b hb.2).trans hb.1,Nat.lt_of_lt_of_le hb.2 k.size⟩,k.keep b hb.2 hb.1⟩)⟩,h.num,h.bnd⟩
def calV (nm:List (ByteArray × Int)) (fs:List PFn) (s:ByteArray):Value:=match calP nm fs s with
 | some (i,n) => .tuple #[.int .i64 i,.int .i64 n,.bool true]
 | none => .tuple #[.int .i64 0,.int .i64 0,.bool false]
set_option maxHeartbeats 1000000 in
theorem called_w (P M:Nat) (fv:Value) (sp:Int) (col:Nat → Nat) (nm:List (ByteArray × Int)) (fs:List PFn) (s:ByteArray) (w:World) (hP:w.heap[P]? = some (pgO fv M sp)) (hC:Ctx w col M fv nm fs) (hs:small s = true) :
  Calls Tryz.prog 94 #[.pointer (some ⟨P,0,none⟩),.string s] w fun e w' => e = .returned (calV nm fs s) ∧ Ext w w':=by
 have HB:=hide (builtin_w s w hC.tbl)
 have p0:w.cell? ⟨P,0,none⟩ = some fv:=rowC hP 0 rfl
 have p1:w.cell? ⟨P,1,none⟩ = some (.map (some M)):=rowC hP 1 rfl
 unfold biV at HB
 cases hb:biP s with
 | some q =>
  obtain ⟨o,n⟩:=q
  rw [hb] at HB
  have HV:Hd (calV nm fs s = .tuple #[.int .i64 (wrap64 (o + 1000)),.int .i64 n,.bool true]):=by unfold Hd calV calP;rw [hb]
  clear hP hC hb
  simp only at HB
  go_enter Tryz.func94,Tryz.ntmps94
  go_wp2_with (go_at_call 14;refine Calls.mono (unhide HB) ?_;rintro e w1 ⟨rfl,hw⟩;obtain rfl:=hw.symm)
  rw [unhide HV]
  exact bodyPost_ret (v:=.tuple #[.int .i64 (wrap64 (o + 1000)),.int .i64 n,.bool true]) (by simp [results,Tryz.results94]) rfl ⟨rfl,Ext.refl _⟩
 | none =>
  rw [hb] at HB
  simp only at HB
  obtain ⟨n,hm⟩:=hC.map
  obtain ⟨c,hrun,hv⟩:=look_run hm hs
  cases hl:lkp nm s with
  | none =>
   rw [hl] at hrun
   have HV:Hd (calV nm fs s = .tuple #[.int .i64 0,.int .i64 0,.bool false]):=by unfold Hd calV calP;rw [hb];simp only;rw [hl]
   clear hP hC hb hm hv
   simp only [Option.isSome_none] at hrun
   go_enter Tryz.func94,Tryz.ntmps94
   go_wp2_with (go_at_call 14;refine Calls.mono (unhide HB) ?_;rintro e w1 ⟨rfl,hw⟩;obtain rfl:=hw.symm)
   rw [unhide HV]
   exact bodyPost_ret (v:=.tuple #[.int .i64 0,.int .i64 0,.bool false]) (by simp [results,Tryz.results94]) rfl ⟨rfl,Ext.refl _⟩
  | some i =>
   rw [hl] at hrun
   obtain rfl:=hv i hl
   obtain ⟨hi0,hi1⟩:=hC.num s c hl
   obtain ⟨k,rfl⟩:∃ k:Nat,c = k:=⟨c.toNat,by omega⟩
   have hk:k < fs.length:=by simpa using hi1
   obtain ⟨p,hp⟩:∃ p,fs[k]? = some p:=⟨_,List.getElem?_eq_getElem hk⟩
   obtain ⟨fa,fcap,rfl,hf,hr⟩:=hC.fns
   have HV:Hd (calV nm fs s = .tuple #[.int .i64 (k:Int),.int .i64 (p.ps.length:Int),.bool true]):=by
    unfold Hd calV calP
    rw [hb]
    simp only
    rw [hl]
    simp only [Int.toNat_natCast]
    rw [hp]
    rfl
   rcases hr with hnil | ⟨b,off,xs,rfl,hbb,hx,hc⟩
   ·rw [hnil] at hk;simp at hk
   obtain ⟨pa,pc,a2,cap2,h1,h2,_,_,hat⟩:=hx.at hp
   have q1:=hc _ _ (hat 1 _ rfl)
   simp only [← Nat.add_assoc] at q1
   simp only [Option.isSome_some] at hrun
   clear hP hC hb hm hv hx hc hat hl hi0 hi1
   go_enter Tryz.func94,Tryz.ntmps94
   go_wp2_with (go_at_call 14;refine Calls.mono (unhide HB) ?_;rintro e w1 ⟨rfl,hw⟩;obtain rfl:=hw.symm)
   refine wp_nrm ?_
   first | skip;go_region | fail
   all_goals
    simp only [Nrm]
    go_wp2_with fail
    rw [unhide HV]
    exact bodyPost_ret (v:=.tuple #[.int .i64 (k:Int),.int .i64 (p.ps.length:Int),.bool true]) (by simp [results,Tryz.results94]) rfl ⟨rfl,Ext.drew (Ext.refl _)⟩
set_option maxHeartbeats 1000000 in
theorem call_w (B P M:Nat) (fv:Value) (col:Nat → Nat) (st:WK) (nm:List (ByteArray × Int)) (fs:List PFn) (s:ByteArray) (k:Nat) (w:World) (h:WS w B P M fv col st) (hC:Ctx w col M fv nm fs) (hs:small s = true) (hb:st.cl.length ≤ 10000000) :
  Calls Tryz.prog 72 #[.pointer (some ⟨B,0,none⟩),.string s,.int .i64 (k:Int)] w (Walks B P M fv col w (st.call nm fs s k)):=by
 obtain ⟨lv,oa,ba,sa,ca,oc,bc,sc,cc,hB,hP,hm,h2,h3,h4,h5⟩:=id h.ex
 have c0:w.cell? ⟨B,0,none⟩ = some (.pointer (some ⟨P,0,none⟩)):=rowC hB 0 rfl
 have HCd:=hide (called_w P M fv st.sp col nm fs s w hP hC hs)
 have HF:=hide (fun c W (x:Ext w W) => fail_w B P M fv col st c W (h.ext x))
 have HS:=hide h
 unfold WK.call
 unfold calV at HCd
 cases hq:calP nm fs s with
 | none =>
  rw [hq] at HCd
  simp only at HCd ⊢
  clear h hC hB hP hm h2 h3 h4 h5
  go_enter Tryz.func72,Tryz.ntmps72
  go_wp2_with (first
   | (go_at_call 94;refine Calls.mono (unhide HCd) ?_;rintro e w1 ⟨rfl,hw⟩;have X:=hide hw;clear hw)
   | (go_at_call 41;refine Calls.mono (unhide HF _ _ (unhide X)) ?_;rintro e w2 ⟨rfl,col2,a,b⟩;have A:=hide a;have B2:=hide b;clear a b))
  go_end0
  exact (unhide A).up ((Wk.ext (unhide X)).trans (unhide B2))
 | some q =>
  obtain ⟨i,n⟩:=q
  rw [hq] at HCd
  simp only at HCd ⊢
  by_cases hn:n = k
  ·rw [if_pos hn]
   subst hn
   have HXX:=hide (fun W (x:Ext w W) => (h.ext x).ex)
   obtain ⟨i0,hi,hz0,hz1,hz2⟩:=info_parts infoIS
   have HI:=hide hi
   have Z0:=hide hz0
   have Z1:=hide hz1
   have Z2:=hide hz2
   clear hi hz0 hz1 hz2 hC hB hP hm h2 h3 h4 h5 HF h
   go_enter Tryz.func72,Tryz.ntmps72
   go_wp2_with (first
    | (go_at_call 94;refine Calls.mono (unhide HCd) ?_;rintro e w1 ⟨rfl,hw⟩;have hx:=(unhide HS).ext hw;obtain ⟨lv2,oa2,ba2,sa2,ca2,oc2,bc2,sc2,cc2,kB,kP,km,k2,k3,k4,k5⟩:=id hx.ex;have c7:w1.cell? ⟨B,7,none⟩ = some (.slice ca2 st.cl.length cc2):=rowC kB 7 rfl;have HU:=hide (fun (w6:World) (ob:Obj) (g' cap':Nat) => hx.addCl (w6:=w6) kB kP km k2 k3 k4 k5 ob (g':=g') (cap':=cap') (x:=i));have e0:(nms st.cl).length = st.cl.length:=List.length_map _;have ho:w1.ownsRow 0 3 1 (.slice ca2 st.cl.length cc2) st.cl.length (nms st.cl):=(by have h0:=k5.own;rw [e0] at h0;exact h0);have HO:=hide (fun ob => ho.alloc ob);have RB:=hide kB;have hown:=k5.hue;rw [e0] at hown;have HW:=hide hown;have CB:=hide hx.cB;have X1:=hide hw;have l2:B < w1.heap.size:=(Array.getElem?_eq_some_iff.1 kB).1;clear hx kB kP km k2 k3 k4 k5 ho hown e0 hw)
    | (at_builtin;refine wpList_append_where rfl (.tmp 24) (.tmp 26) 40 rfl 0 3 i0 (.int .i64 0) 1 8 Tryz.underlying40 (unhide HI) (unhide Z0) (unhide Z1) (unhide Z2) rfl (by decide) ca2 st.cl.length cc2 (nms st.cl) rfl (unhide HO _) ⟨w1.heap.size,0,none⟩ 1 1 [.int .i64 i] rfl (by decide) rfl (cells_new w1 _ _) (one_intS _) ?c1 ?c2 (Nat.zero_le _) ?_))
   case c1 => unfold maxLen;omega
   case c2 => omega
   intro g' cap' w6 ho6 hg6 hw6
   have RZ:=(hg6.block B (by simp;omega) (fun e => by have h1:=unhide HW B e.symm;have h2:=unhide CB;omega)).trans ((Ext.alloc _ _).row (unhide RB))
   have z7:=rowC RZ 7 rfl
   have zz:=rowF RZ
   have HR:=hide (unhide HU w6 _ g' cap' ho6 hg6 (by rw [size_alloc];exact hw6))
   clear ho6 hg6 hw6 RZ
   go_wp2_with fail
   go_end0
   exact (unhide HR).1.up ((Wk.ext (unhide X1)).trans (unhide HR).2)
  ·rw [if_neg hn]
   have hn2:(n == (k:Int)) = false:=by simpa using hn
   have hn3:(n != (k:Int)) = true:=by simp [hn]
   clear hn h hC hB hP hm h2 h3 h4 h5
   go_enter Tryz.func72,Tryz.ntmps72
   go_wp2_with (first
    | (go_at_call 94;refine Calls.mono (unhide HCd) ?_;rintro e w1 ⟨rfl,hw⟩;have X:=hide hw;clear hw)
    | (go_at_call 41;refine Calls.mono (unhide HF _ _ (unhide X)) ?_;rintro e w2 ⟨rfl,col2,a,b⟩;have A:=hide a;have B2:=hide b;clear a b))
   go_end0
   exact (unhide A).up ((Wk.ext (unhide X)).trans (unhide B2))
end Go.Proofs.YtgkdmgndebifiaaGreatDoor
namespace Go.Proofs.YtgkdmgndebifiaaGreatDoor
open Go.RowKit Go.Maps
structure NodeAt (w:World) (col:Nat → Nat) (p:PN) (nb no:Nat):Prop where
 hue:col nb = 0
 lt:nb < w.heap.size
 ex:∃ a cap,w.cell? ⟨nb,no,none⟩ = some (.int .i64 p.k) ∧ w.cell? ⟨nb,no + 2,none⟩ = some (.string p.s) ∧ w.cell? ⟨nb,no + 4,none⟩ = some (.slice a p.l.length cap) ∧ p.l.length ≤ cap ∧ RepNL w (fun k => col k = 0 ∧ k < w.heap.size) p.l a
theorem NodeAt.on {w w':World} {col col':Nat → Nat} {p:PN} {nb no:Nat} (h:NodeAt w col p nb no) (k:Wk col col' w w'):NodeAt w' col' p nb no:=by
 obtain ⟨a,cap,h0,h2,h4,hc,hr⟩:=h.ex
 have hk:∀ o,w'.cell? ⟨nb,o,none⟩ = w.cell? ⟨nb,o,none⟩:=fun o => World.cell?_of_block (w:=w) (k.keep nb h.lt h.hue)
 exact ⟨(k.same nb h.lt).trans h.hue,Nat.lt_of_lt_of_le h.lt k.size,a,cap,(hk _).trans h0,(hk _).trans h2,(hk _).trans h4,hc,RepNL.to (fun b hb => ⟨⟨(k.same b hb.2).trans hb.1,Nat.lt_of_lt_of_le hb.2 k.size⟩,k.keep b hb.2 hb.1⟩) _ _ hr⟩
structure Bd (st:WK) (n:Nat):Prop where
 lc:(Lit.int .i64 st.lc).wf = true
 od:st.od.length ≤ n
 bk:st.bk.length ≤ n
 sl:st.sl.length ≤ n
 cl:st.cl.length ≤ n
 ct:st.ct ≤ n
 sm:∀ x ∈ st.od,small x = true
theorem Bd.mono {st:WK} {n m:Nat} (h:Bd st n) (k:n ≤ m):Bd st m:=⟨h.lc,Nat.le_trans h.od k,Nat.le_trans h.bk k,Nat.le_trans h.sl k,Nat.le_trans h.cl k,Nat.le_trans h.ct k,h.sm⟩
theorem Bd.fail {st:WK} {n:Nat} (h:Bd st n) (c:Int):Bd (st.fail c) n:=by
 unfold WK.fail
 split
 ·exact ⟨h.lc,h.od,h.bk,h.sl,h.cl,h.ct,h.sm⟩
 ·exact h
theorem Bd.step {st:WK} {n:Nat} (h:Bd st n) (l:Nat):Bd (st.step l) n:=by
 have h1:∀ x,Bd { st with sp:=x } n:=fun x => ⟨h.lc,h.od,h.bk,h.sl,h.cl,h.ct,h.sm⟩
 unfold WK.step WK.stepTo
 split
 ·exact (h1 _).fail _
 ·exact h1 _
theorem Bd.use {st:WK} {n:Nat} (h:Bd st n) (s:ByteArray):Bd (st.use s) (n + 1):=by
 unfold WK.use
 split
 ·exact (h.fail _).mono (by omega)
 ·exact ⟨h.lc,Nat.le_succ_of_le h.od,Nat.le_succ_of_le h.bk,by simpa using h.sl,Nat.le_succ_of_le h.cl,Nat.le_succ_of_le h.ct,h.sm⟩
theorem Bd.leave {st:WK} {n:Nat} (h:Bd st n):Bd st.leave n:=by
 unfold WK.leave
 split
 ·exact h.fail _
 ·exact h
theorem Bd.up {st:WK} {n:Nat} (h:Bd st n):Bd st.up n:=⟨wrap64_wf _,h.od,h.bk,h.sl,h.cl,h.ct,h.sm⟩
theorem Bd.declare {st:WK} {n:Nat} (h:Bd st n) {s:ByteArray} (hs:small s = true):Bd (st.declare s) (n + 1):=by
 unfold WK.declare
 split
 ·exact ((h.fail _).up).mono (by omega)
 ·refine Bd.up ⟨h.lc,by simpa [WK.put] using h.od,Nat.le_succ_of_le h.bk,Nat.le_succ_of_le h.sl,Nat.le_succ_of_le h.cl,by simpa [WK.put] using h.ct,fun x hx => ?_⟩
  have hx:x ∈ st.od ++ [s]:=hx
  rcases List.mem_append.1 hx with hx | hx
  ·exact h.sm x hx
  ·rw [List.mem_singleton.1 hx];exact hs
theorem Bd.letW {st:WK} {n:Nat} (h:Bd st n) {s:ByteArray} (hs:small s = true):Bd (st.letW s) (n + 1):=by
 have hd:=Bd.declare (n:=n) (st:={ st with sl:=[] }) ⟨h.lc,h.od,h.bk,Nat.zero_le _,h.cl,h.ct,h.sm⟩ hs
 have e:∀ (S:List Int),(WK.declare { st with sl:=S } s).sl = S:=fun S => by
  unfold WK.declare
  split
  ·show (WK.fail _ _).sl = S
   unfold WK.fail
   split <;> rfl
  ·rfl
 have e2:∀ (S:List Int),WK.declare { st with sl:=S } s = { WK.declare { st with sl:=[] } s with sl:=S }:=fun S => by
  unfold WK.declare
  split
  ·unfold WK.fail
   split <;> rfl
  ·rfl
 unfold WK.letW
 rw [e2]
 exact ⟨hd.lc,hd.od,hd.bk,by simpa using h.sl,hd.cl,hd.ct,hd.sm⟩
theorem Bd.bgn {st:WK} {n:Nat} (h:Bd st n) (p:PN):Bd (st.bgn p) (n + 1):=by
 have hs:=h.step p.s.size
 unfold WK.bgn
 split
 ·exact hs.use _
 split
 ·exact ⟨hs.lc,Nat.le_succ_of_le hs.od,by simpa [WK.opn] using hs.bk,Nat.le_succ_of_le hs.sl,Nat.le_succ_of_le hs.cl,Nat.le_succ_of_le hs.ct,hs.sm⟩
 split
 ·exact ⟨hs.lc,Nat.le_succ_of_le hs.od,Nat.le_succ_of_le hs.bk,Nat.le_succ_of_le hs.sl,Nat.le_succ_of_le hs.cl,Nat.le_succ_of_le hs.ct,hs.sm⟩
 split
 ·exact hs.leave.mono (by omega)
 ·exact hs.mono (by omega)
theorem Bd.call {st:WK} {n:Nat} (h:Bd st n) (nm:List (ByteArray × Int)) (fs:List PFn) (s:ByteArray) (k:Nat):Bd (st.call nm fs s k) (n + 1):=by
 unfold WK.call
 split
 ·exact (h.fail _).mono (by omega)
 ·split
  ·exact ⟨h.lc,Nat.le_succ_of_le h.od,Nat.le_succ_of_le h.bk,Nat.le_succ_of_le h.sl,by simpa using h.cl,Nat.le_succ_of_le h.ct,h.sm⟩
  ·exact (h.fail _).mono (by omega)
theorem close_some {st st2:WK} (h:st.close = some st2):∃ L m:Nat,st.bk.length = L + 1 ∧ st.bk[L]? = some (m:Int) ∧ m ≤ st.od.length ∧ st2 = st.shut m:=by
 unfold WK.close at h
 cases hg:st.bk.getLast? with
 | none => rw [hg] at h;cases h
 | some b =>
  rw [hg] at h
  simp only at h
  split at h
  ·rename_i hc
   injection h with h
   rw [List.getLast?_eq_getElem?] at hg
   have hl:0 < st.bk.length:=by
    cases hbk:st.bk with
    | nil => rw [hbk] at hg;simp at hg
    | cons _ _ => simp
   exact ⟨st.bk.length - 1,b.toNat,by omega,by rw [hg];congr 1;omega,hc.2,h.symm⟩
  ·cases h
theorem Bd.fin {st st2:WK} {n:Nat} (h:Bd st n) {nm:List (ByteArray × Int)} {fs:List PFn} {p:PN} (hs:small p.s = true) (hf:st.fin nm fs p = some st2):Bd st2 (n + 1):=by
 unfold WK.fin at hf
 split at hf
 ·injection hf with hf;subst hf;exact h.letW hs
 split at hf
 ·obtain ⟨L,m,h1,h2,h3,rfl⟩:=close_some hf
  refine ⟨h.lc,?_,?_,Nat.le_succ_of_le h.sl,Nat.le_succ_of_le h.cl,Nat.le_succ_of_le h.ct,fun x hx => h.sm x (List.mem_of_mem_take hx)⟩
  ·have:=h.od;simp [WK.shut];omega
  ·have:=h.bk;simp [WK.shut];omega
 split at hf
 ·injection hf with hf;subst hf;exact ⟨h.lc,Nat.le_succ_of_le h.od,Nat.le_succ_of_le h.bk,Nat.le_succ_of_le h.sl,Nat.le_succ_of_le h.cl,Nat.le_succ_of_le h.ct,h.sm⟩
 split at hf
 ·injection hf with hf;subst hf;exact h.call _ _ _ _
 ·injection hf with hf;subst hf;exact h.mono (by omega)
theorem WS.c4 {w:World} {B P M:Nat} {fv:Value} {col:Nat → Nat} {st:WK} (h:WS w B P M fv col st):w.cell? ⟨B,4,none⟩ = some (.int .i64 st.lp) ∧ ∀ i,w.frozen? ⟨B,i,none⟩ = false:=by
 obtain ⟨lv,oa,ba,sa,ca,oc,bc,sc,cc,hB,hP,hm,h2,h3,h4,h5⟩:=h.ex
 exact ⟨rowC hB 4 rfl,rowF hB⟩
set_option maxHeartbeats 1000000 in
theorem begin_w (B P M:Nat) (fv:Value) (col:Nat → Nat) (st:WK) (p:PN) (nb no n:Nat) (w:World) (h:WS w B P M fv col st) (hN:NodeAt w col p nb no) (hs:small p.s = true) (hb:Bd st n) (hn:n ≤ 9000000) :
  Calls Tryz.prog 53 #[.pointer (some ⟨B,0,none⟩),.pointer (some ⟨nb,no,none⟩)] w (Walks B P M fv col w (st.bgn p)):=by
 have HN:=hide hN
 obtain ⟨_,_,_,m2,_⟩:=hN.ex
 have HS:=hide (step_w B P M fv col st p.s nb no w h hs m2)
 have HBD:=hide (hb.step p.s.size)
 unfold WK.bgn
 clear h hN m2 hb
 obtain ⟨k,o,s,n',l⟩:=p
 simp only at hs ⊢
 replace HS:Hd (Calls Tryz.prog 66 #[.pointer (some ⟨B,0,none⟩),.pointer (some ⟨nb,no,none⟩)] w (Walks B P M fv col w (st.step s.size))):=HS
 replace HBD:Hd (Bd (st.step s.size) n):=HBD
 generalize st.step s.size = st1 at *
 by_cases h2:k = 2
 ·subst h2
  rw [if_pos (Or.inl rfl)]
  go_enter Tryz.func53,Tryz.ntmps53
  go_wp2_with (first
   | (go_at_call 66;refine Calls.mono (unhide HS) ?_;rintro e w1 ⟨rfl,col1,a1,b1⟩;have hN1:=(unhide HN).on b1;obtain ⟨na,ncap,n0,n2,n4,-,-⟩:=hN1.ex;have n0:w1.cell? ⟨nb,no,none⟩ = some (.int .i64 2):=n0;have n2:w1.cell? ⟨nb,no + 2,none⟩ = some (.string s):=n2;have l4:=a1.c4.1;have l4z:=a1.c4.2;have A1:=hide a1;have B1:=hide b1;clear a1 b1 hN1 n4)
   | (go_at_call 67;refine Calls.mono (use_w B P M fv col1 _ s w1 (unhide A1) hs (by have:=(unhide HBD).sl;omega)) ?_;rintro e w2 ⟨rfl,col2,a,b⟩;have A:=hide a;have B2:=hide b;clear a b))
  go_end0
  exact (unhide A).up ((unhide B1).trans (unhide B2))
 by_cases h19:k = 19
 ·subst h19
  rw [if_pos (Or.inr rfl)]
  go_enter Tryz.func53,Tryz.ntmps53
  go_wp2_with (first
   | (go_at_call 66;refine Calls.mono (unhide HS) ?_;rintro e w1 ⟨rfl,col1,a1,b1⟩;have hN1:=(unhide HN).on b1;obtain ⟨na,ncap,n0,n2,n4,-,-⟩:=hN1.ex;have n0:w1.cell? ⟨nb,no,none⟩ = some (.int .i64 19):=n0;have n2:w1.cell? ⟨nb,no + 2,none⟩ = some (.string s):=n2;have l4:=a1.c4.1;have l4z:=a1.c4.2;have A1:=hide a1;have B1:=hide b1;clear a1 b1 hN1 n4)
   | (go_at_call 67;refine Calls.mono (use_w B P M fv col1 _ s w1 (unhide A1) hs (by have:=(unhide HBD).sl;omega)) ?_;rintro e w2 ⟨rfl,col2,a,b⟩;have A:=hide a;have B2:=hide b;clear a b))
  go_end0
  exact (unhide A).up ((unhide B1).trans (unhide B2))
 rw [if_neg (by rintro (h | h) <;> contradiction)]
 have e2:(k == 2) = false:=by simpa using h2
 have e19:(k == 19) = false:=by simpa using h19
 
 by_cases h10:k = 10
 ·subst h10
  rw [if_pos rfl]
  go_enter Tryz.func53,Tryz.ntmps53
  go_wp2_with (first
   | (go_at_call 66;refine Calls.mono (unhide HS) ?_;rintro e w1 ⟨rfl,col1,a1,b1⟩;have hN1:=(unhide HN).on b1;obtain ⟨na,ncap,n0,n2,n4,-,-⟩:=hN1.ex;have n0:w1.cell? ⟨nb,no,none⟩ = some (.int .i64 10):=n0;have n2:w1.cell? ⟨nb,no + 2,none⟩ = some (.string s):=n2;have l4:=a1.c4.1;have l4z:=a1.c4.2;have A1:=hide a1;have B1:=hide b1;clear a1 b1 hN1 n4)
   | (go_at_call 68;refine Calls.mono (open_w B P M fv col1 _ w1 (unhide A1) (by have:=(unhide HBD).bk;omega)) ?_;rintro e w2 ⟨rfl,col2,a,b⟩;have A:=hide a;have B2:=hide b;clear a b))
  go_end0
  exact (unhide A).up ((unhide B1).trans (unhide B2))
 rw [if_neg h10]
 have e10:(k == 10) = false:=by simpa using h10
 
 by_cases h4:k = 4
 ·subst h4
  rw [if_pos rfl]
  go_enter Tryz.func53,Tryz.ntmps53
  go_wp2_with (first
   | (go_at_call 66;refine Calls.mono (unhide HS) ?_;rintro e w1 ⟨rfl,col1,a1,b1⟩;have hN1:=(unhide HN).on b1;obtain ⟨na,ncap,n0,n2,n4,-,-⟩:=hN1.ex;have n0:w1.cell? ⟨nb,no,none⟩ = some (.int .i64 4):=n0;have n2:w1.cell? ⟨nb,no + 2,none⟩ = some (.string s):=n2;have l4:=a1.c4.1;have l4z:=a1.c4.2;have A1:=hide a1;have B1:=hide b1;clear a1 b1 hN1 n4))
  go_end0
  have hU:=(unhide A1).setLp (wrap64 (st1.lp + 1))
  exact hU.1.up ((unhide B1).trans hU.2)
 rw [if_neg h4]
 have e4:(k == 4) = false:=by simpa using h4
 
 by_cases h5:k = 5
 ·subst h5
  rw [if_pos (Or.inl rfl)]
  go_enter Tryz.func53,Tryz.ntmps53
  go_wp2_with (first
   | (go_at_call 66;refine Calls.mono (unhide HS) ?_;rintro e w1 ⟨rfl,col1,a1,b1⟩;have hN1:=(unhide HN).on b1;obtain ⟨na,ncap,n0,n2,n4,-,-⟩:=hN1.ex;have n0:w1.cell? ⟨nb,no,none⟩ = some (.int .i64 5):=n0;have n2:w1.cell? ⟨nb,no + 2,none⟩ = some (.string s):=n2;have l4:=a1.c4.1;have l4z:=a1.c4.2;have A1:=hide a1;have B1:=hide b1;clear a1 b1 hN1 n4)
   | (go_at_call 69;refine Calls.mono (leave_w B P M fv col1 _ w1 (unhide A1)) ?_;rintro e w2 ⟨rfl,col2,a,b⟩;have A:=hide a;have B2:=hide b;clear a b))
  go_end0
  exact (unhide A).up ((unhide B1).trans (unhide B2))
 by_cases h6:k = 6
 ·subst h6
  rw [if_pos (Or.inr rfl)]
  go_enter Tryz.func53,Tryz.ntmps53
  go_wp2_with (first
   | (go_at_call 66;refine Calls.mono (unhide HS) ?_;rintro e w1 ⟨rfl,col1,a1,b1⟩;have hN1:=(unhide HN).on b1;obtain ⟨na,ncap,n0,n2,n4,-,-⟩:=hN1.ex;have n0:w1.cell? ⟨nb,no,none⟩ = some (.int .i64 6):=n0;have n2:w1.cell? ⟨nb,no + 2,none⟩ = some (.string s):=n2;have l4:=a1.c4.1;have l4z:=a1.c4.2;have A1:=hide a1;have B1:=hide b1;clear a1 b1 hN1 n4)
   | (go_at_call 69;refine Calls.mono (leave_w B P M fv col1 _ w1 (unhide A1)) ?_;rintro e w2 ⟨rfl,col2,a,b⟩;have A:=hide a;have B2:=hide b;clear a b))
  go_end0
  exact (unhide A).up ((unhide B1).trans (unhide B2))
 rw [if_neg (by rintro (h | h) <;> contradiction)]
 have e5:(k == 5) = false:=by simpa using h5
 have e6:(k == 6) = false:=by simpa using h6
 
 go_enter Tryz.func53,Tryz.ntmps53
 go_wp2_with (first
  | (go_at_call 66;refine Calls.mono (unhide HS) ?_;rintro e w1 ⟨rfl,col1,a1,b1⟩;have hN1:=(unhide HN).on b1;obtain ⟨na,ncap,n0,n2,n4,-,-⟩:=hN1.ex;have n0:w1.cell? ⟨nb,no,none⟩ = some (.int .i64 k):=n0;have n2:w1.cell? ⟨nb,no + 2,none⟩ = some (.string s):=n2;have l4:=a1.c4.1;have l4z:=a1.c4.2;have A1:=hide a1;have B1:=hide b1;clear a1 b1 hN1 n4))
 go_end0
 exact (unhide A1).up (unhide B1)
end Go.Proofs.YtgkdmgndebifiaaGreatDoor
namespace Go.Proofs.YtgkdmgndebifiaaGreatDoor
open Go.RowKit Go.Maps
theorem enterCall (v u x:Value) (w:World):(callFunc 72 #[v,u,x]).run Tryz.prog w = .ok (.enter 72 #[v,u,x]) w:=by kernel_rfl
set_option maxHeartbeats 1000000 in
theorem end_w (B P M:Nat) (fv:Value) (col:Nat → Nat) (st:WK) (nm:List (ByteArray × Int)) (fs:List PFn) (p:PN) (nb no n:Nat) (w:World) (st2:WK) (h:WS w B P M fv col st) (hC:Ctx w col M fv nm fs) (hN:NodeAt w col p nb no) (hs:small p.s = true) (hb:Bd st n) (hn:n ≤ 9000000) (hf:st.fin nm fs p = some st2) :
  Calls Tryz.prog 54 #[.pointer (some ⟨B,0,none⟩),.pointer (some ⟨nb,no,none⟩)] w (Walks B P M fv col w st2):=by
 obtain ⟨na,ncap,n0,n2,n4,-,-⟩:=hN.ex
 have l4:=h.c4.1
 have l4z:=h.c4.2
 have HS:=hide h
 unfold WK.fin at hf
 clear hN
 obtain ⟨k,o,s,n',l⟩:=p
 simp only at hs hf n0 n2 n4
 by_cases h1:k = 1
 ·subst h1
  rw [if_pos rfl] at hf
  injection hf with hf
  have HL:=hide (let_w B P M fv col st s w h hs hb.lc (by have:=hb.ct;omega) (by have:=hb.od;omega) (by have:=hb.sl;omega))
  subst hf
  clear h hC hb
  go_enter Tryz.func54,Tryz.ntmps54
  go_wp2_with ((go_at_call 70;refine Calls.mono (unhide HL) ?_;rintro e w2 ⟨rfl,col2,a,b⟩;have A:=hide a;have B2:=hide b;clear a b))
  go_end0
  exact (unhide A).up (unhide B2)
 rw [if_neg h1] at hf
 have e1:(k == 1) = false:=by simpa using h1
 
 by_cases h10:k = 10
 ·subst h10
  rw [if_pos rfl] at hf
  obtain ⟨L,m,hL,hl,hm,hst⟩:=close_some hf
  have HC:=hide (close_w B P M fv col st L m w h hL (by have:=hb.bk;omega) hl hm (by have:=hb.od;omega) hb.sm)
  subst hst
  clear h hC hb hf
  go_enter Tryz.func54,Tryz.ntmps54
  go_wp2_with ((go_at_call 71;refine Calls.mono (unhide HC) ?_;rintro e w2 ⟨rfl,col2,a,b⟩;have A:=hide a;have B2:=hide b;clear a b))
  go_end0
  exact (unhide A).up (unhide B2)
 rw [if_neg h10] at hf
 have e10:(k == 10) = false:=by simpa using h10
 
 by_cases h4:k = 4
 ·subst h4
  rw [if_pos rfl] at hf
  injection hf with hf
  subst hf
  clear h hC hb
  go_enter Tryz.func54,Tryz.ntmps54
  go_wp2_with fail
  go_end0
  have hU:=(unhide HS).setLp (wrap64 (st.lp - 1))
  exact hU.1.up hU.2
 rw [if_neg h4] at hf
 have e4:(k == 4) = false:=by simpa using h4
 
 by_cases h20:k = 20
 ·subst h20
  rw [if_pos rfl] at hf
  injection hf with hf
  have HK:=hide (call_w B P M fv col st nm fs s l.length w.drew (h.ext (Ext.drew (Ext.refl _))) (hC.on (Wk.ext (Ext.drew (Ext.refl _)))) hs (by have:=hb.cl;omega))
  subst hf
  clear h hC hb
  go_enter Tryz.func54,Tryz.ntmps54
  go_wp2_with fail
  refine wp_nrm ?_
  first | skip;go_region_law (refine step_call_three rfl 72 (.tmp 33) (.tmp 37) (.tmp 42) 117 9 3 rfl _ _ _ (by simp [Act.eval,Act.put]) (by simp [Act.eval,Act.put]) (by simp [Act.eval,Act.put]) (enterCall _ _ _ _) (Calls.mono (unhide HK) ?_);rintro e w1 ⟨rfl,col2,a,b⟩;have A:=hide a;have B2:=hide b;clear a b;refine ⟨_,rfl,?_⟩) | fail
  all_goals
   simp only [Nrm]
   go_wp2_with fail
   go_end0
   exact (unhide A).up (unhide B2).drewTo
 rw [if_neg h20] at hf
 have e20:(k == 20) = false:=by simpa using h20
 
 injection hf with hf
 subst hf
 clear h hC hb
 go_enter Tryz.func54,Tryz.ntmps54
 go_wp2_with fail
 go_end0
 exact (unhide HS).up (Wk.refl _ _)
end Go.Proofs.YtgkdmgndebifiaaGreatDoor
namespace Go.Proofs.YtgkdmgndebifiaaGreatDoor
open Go.RowKit Go.Maps
structure OpN where
 p:PN
 d:Nat
 b:Nat
 o:Nat
def opC (x:OpN):List Value:=[.pointer (some ⟨x.b,x.o,none⟩),.int .i64 (x.d:Int)]
def opP (x:OpN):PN × Nat:=(x.p,x.d)
theorem flat_len (l:List OpN):(l.flatMap opC).length = l.length * 2:=by
 induction l with
 | nil => rfl
 | cons x r ih => rw [List.flatMap_cons,List.length_append,ih];simp [opC];omega
theorem flat_last (r:List OpN) (x:OpN):(x :: r).reverse.flatMap opC = r.reverse.flatMap opC ++ opC x:=by
 rw [List.reverse_cons,List.flatMap_append];simp
theorem flat_rlen (l:List OpN):(l.reverse.flatMap opC).length = l.length * 2:=by rw [flat_len,List.length_reverse]
theorem repNL_atS {w:World} {F:Nat → Prop}:∀ {l:List PN} {a:Option Addr} {d:Nat} {q:PN},RepNL w F l a → l[d]? = some q → ∃ b off,a = some ⟨b,off,none⟩ ∧ F b ∧ ∃ a' cap',w.cell? ⟨b,off + d * 5,none⟩ = some (.int .i64 q.k) ∧ w.cell? ⟨b,off + d * 5 + 2,none⟩ = some (.string q.s) ∧ w.cell? ⟨b,off + d * 5 + 4,none⟩ = some (.slice a' q.l.length cap') ∧ q.l.length ≤ cap' ∧ RepNL w F q.l a':=by
 intro l
 induction l with
 | nil => intro a d q _ h;simp at h
 | cons x xs ih =>
  intro a d q hr h
  rw [RepNL] at hr
  obtain ⟨b,off,c0,c1,c2,c3,c4,rfl,hf,hx,h0,h1,h2,h3,h4,hxs⟩:=hr
  cases d with
  | zero =>
   obtain rfl:x = q:=by simpa using h
   obtain ⟨k,o,s,n,l⟩:=x
   rw [RepN] at hx
   obtain ⟨a',cap',e,hc,hl⟩:=hx
   injection e with e
   simp at e
   obtain ⟨rfl,rfl,rfl,rfl,rfl⟩:=e
   exact ⟨b,off,rfl,hf,a',cap',by simpa using h0,by simpa using h2,by simpa using h4,hc,hl⟩
  | succ d =>
   obtain ⟨b',off',e,hf',a',cap',k0,k2,k4,hc,hl⟩:=ih hxs (by simpa using h)
   injection e with e
   injection e with e1 e2
   subst e1 e2
   have e5:off + 5 + d * 5 = off + (d + 1) * 5:=by omega
   rw [e5] at k0 k2 k4
   exact ⟨b,off,rfl,hf,a',cap',k0,k2,k4,hc,hl⟩
theorem NodeAt.child {w:World} {col:Nat → Nat} {p q:PN} {nb no d:Nat} (h:NodeAt w col p nb no) (hd:p.l[d]? = some q):∃ cb co cap,w.cell? ⟨nb,no + 4,none⟩ = some (.slice (some ⟨cb,co,none⟩) p.l.length cap) ∧ p.l.length ≤ cap ∧ NodeAt w col q cb (co + d * 5):=by
 obtain ⟨a,cap,h0,h2,h4,hc,hr⟩:=h.ex
 obtain ⟨b,off,rfl,hf,a',cap',k0,k2,k4,hc',hl⟩:=repNL_atS hr hd
 exact ⟨b,off,cap,h4,hc,⟨hf.1,hf.2,a',cap',k0,k2,k4,hc',hl⟩⟩
theorem own_prefix {w:World} {t:TypeId} {size:Nat} {a:Option Addr} {n m cap:Nat} {xs:List Value} (h:w.ownsRow 0 t size (.slice a n cap) n xs) (hm:m ≤ n):w.ownsRow 0 t size (.slice a m cap) m (xs.take (m * size)):=by
 obtain ⟨h1,h2⟩:=h
 have hmul:m * size ≤ n * size:=Nat.mul_le_mul_right _ hm
 refine ⟨by simp;omega,?_⟩
 rcases h2 with ⟨e,h0⟩ | ⟨g,cap2,cur,e,hb,hg,hn,hcm,hcs,ht⟩
 ·injection e with e1 e2 e3
  subst e1 e3
  have:m = 0:=by omega
  subst this
  exact Or.inl ⟨rfl,rfl⟩
 ·injection e with e1 e2 e3
  subst e1 e3
  refine Or.inr ⟨g,cap,cur,rfl,hb,hg,by omega,hcm,hcs,?_⟩
  rw [← ht,List.take_take,Nat.min_eq_left hmul]
theorem own_setS {w:World} {t:TypeId} {size g n cap:Nat} {xs:List Value} (h:w.ownsRow 0 t size (.slice (some ⟨g,0,none⟩) n cap) n xs) (i:Nat) (v:Value):(w.setCell ⟨g,i,none⟩ v).ownsRow 0 t size (.slice (some ⟨g,0,none⟩) n cap) n (xs.set i v):=by
 obtain ⟨h1,h2⟩:=h
 refine ⟨by simpa using h1,?_⟩
 rcases h2 with ⟨e,h0⟩ | ⟨g2,cap2,cur,e,hb,hg,hn,hcm,hcs,ht⟩
 ·cases e
 ·injection e with e1 e2 e3
  injection e1 with e1
  injection e1 with e1
  subst e1 e3
  refine Or.inr ⟨g,cap,cur.setIfInBounds i v,rfl,hb,row_set hg i v,hn,hcm,by simpa using hcs,?_⟩
  rw [← ht,Array.toList_setIfInBounds,List.take_set]
structure ThI (B P M:Nat) (fv:Value) (nm:List (ByteArray × Int)) (fs:List PFn) (w0 wr:World) (col0 col:Nat → Nat) (stF st:WK) (stk:List OpN) (pa:Option Addr) (pc:Nat) (f:Nat):Prop where
 ws:WS wr B P M fv col st
 wk:Wk col0 col w0 wr
 own:wr.ownsRow 0 119 2 (.slice pa stk.length pc) stk.length (stk.reverse.flatMap opC)
 hue:∀ k,(Value.slice pa stk.length pc).ownBlock = some k → w0.heap.size ≤ k ∧ col k = 0
 nodes:∀ x ∈ stk,NodeAt w0 col0 x.p x.b x.o ∧ small x.p.s = true ∧ x.d ≤ x.p.l.length ∧ x.d + f ≤ 9000000
 eq:thr nm fs f (stk.map opP) st = some stF
 bd:∃ n,Bd st n ∧ n + f ≤ 9000000
 len:stk.length + f ≤ 9000000
theorem infoO:(Tryz.prog.info? 119).map (fun i => (i.zero,i.size,i.bytes)) = some (some (.agg #[.pointer none,.int .i64 0]),2,16):=by kernel_rfl
theorem one_open (a:Option Addr) (d:Int):∀ u ∈ ([.pointer a,.int .i64 d]:List Value),u.oneCell' = true:=by
 intro u hu
 simp at hu
 rcases hu with rfl | rfl <;> rfl
theorem WS.path {w w':World} {B P M:Nat} {fv:Value} {col:Nat → Nat} {st:WK} (h:WS w B P M fv col st) {g:Option Nat} (hg:w.grownBy w' g) (hc:∀ k,g = some k → col k = 0):WS w' B P M fv col st :=
 h.keep hg.size (fun k hk hne => hg.block k hk (fun e => hne (hc k e.symm)))
theorem Wk.path {w0 w w':World} {col0 col:Nat → Nat} (h:Wk col0 col w0 w) {g:Option Nat} (hg:w.grownBy w' g) (hc:∀ k,g = some k → w0.heap.size ≤ k):Wk col0 col w0 w' :=
 ⟨hg.os.trans h.os,hg.tape.trans h.tape,hg.output.trans h.output,Nat.le_trans h.size hg.size,h.same,fun k hk h0 => (hg.block k (Nat.lt_of_lt_of_le hk h.size) (fun e => by have:=hc k e.symm;omega)).trans (h.keep k hk h0)⟩
theorem own_keep {w w':World} {t:TypeId} {size:Nat} {a:Option Addr} {n cap:Nat} {xs:List Value} (h:w.ownsRow 0 t size (.slice a n cap) n xs) (hk:∀ k,(Value.slice a n cap).ownBlock = some k → w'.heap[k]? = w.heap[k]?):w'.ownsRow 0 t size (.slice a n cap) n xs:=by
 obtain ⟨h1,h2⟩:=h
 refine ⟨h1,?_⟩
 rcases h2 with h2 | ⟨g,cap2,cur,e,hb,hg,rest⟩
 ·exact Or.inl h2
 ·exact Or.inr ⟨g,cap2,cur,e,hb,(hk g (by rw [e];rfl)).trans hg,rest⟩
theorem grown_set (w:World) (g i:Nat) (v:Value):w.grownBy (w.setCell ⟨g,i,none⟩ v) (some g) :=
 ⟨rfl,rfl,rfl,by simp [World.setCell],fun k _ hne => Below.heap_setCell _ _ _ _ (fun e => hne (by rw [e]))⟩
theorem ThI.ext {B P M:Nat} {fv:Value} {nm:List (ByteArray × Int)} {fs:List PFn} {w0 wr W:World} {col0 col:Nat → Nat} {stF st:WK} {stk:List OpN} {pa:Option Addr} {pc f:Nat} (h:ThI B P M fv nm fs w0 wr col0 col stF st stk pa pc f) (e:Ext wr W):ThI B P M fv nm fs w0 W col0 col stF st stk pa pc f :=
 ⟨h.ws.ext e,h.wk.trans (Wk.ext e),own_keep h.own (fun k hk => e.block k (h.own.lt k hk).2),h.hue,h.nodes,h.eq,h.bd,h.len⟩
theorem path_on {w6 w7:World} {col col7:Nat → Nat} {base:Nat} {a:Option Addr} {n cap:Nat} {xs:List Value} (ho:w6.ownsRow 0 119 2 (.slice a n cap) n xs) (hh:∀ k,(Value.slice a n cap).ownBlock = some k → base ≤ k ∧ col k = 0) (k:Wk col col7 w6 w7) :
  w7.ownsRow 0 119 2 (.slice a n cap) n xs ∧ ∀ k,(Value.slice a n cap).ownBlock = some k → base ≤ k ∧ col7 k = 0 :=
 ⟨own_keep ho (fun i hi => k.keep i (ho.lt i hi).2 (hh i hi).2),fun i hi => ⟨(hh i hi).1,(k.same i (ho.lt i hi).2).trans (hh i hi).2⟩⟩
theorem ThI.push {B P M:Nat} {fv:Value} {nm:List (ByteArray × Int)} {fs:List PFn} {w0 W2 w6:World} {col0 col:Nat → Nat} {stF st:WK} {x y:OpN} {rest:List OpN} {g pc f:Nat} (h:ThI B P M fv nm fs w0 W2 col0 col stF st (x :: rest) (some ⟨g,0,none⟩) pc f) {g' cap':Nat}
  (ho:w6.ownsRow 0 119 2 (.slice (some ⟨g',0,none⟩) (rest.length + 1 + 1) cap') (rest.length + 1 + 1) ((OpN.mk x.p (x.d + 1) x.b x.o :: rest).reverse.flatMap opC ++ opC y))
  (g1:W2.grownBy w6 (some g)) (hw:some g = some g' ∨ W2.heap.size ≤ g') :
  WS w6 B P M fv col st ∧ Wk col0 col w0 w6 ∧ w6.ownsRow 0 119 2 (.slice (some ⟨g',0,none⟩) (y :: OpN.mk x.p (x.d + 1) x.b x.o :: rest).length cap') (y :: OpN.mk x.p (x.d + 1) x.b x.o :: rest).length ((y :: OpN.mk x.p (x.d + 1) x.b x.o :: rest).reverse.flatMap opC) ∧
   ∀ k,(Value.slice (some ⟨g',0,none⟩) (y :: OpN.mk x.p (x.d + 1) x.b x.o :: rest).length cap').ownBlock = some k → w0.heap.size ≤ k ∧ col k = 0:=by
 have hg:=h.hue g rfl
 refine ⟨h.ws.path g1 (fun k e => by injection e with e;subst e;exact hg.2),h.wk.path g1 (fun k e => by injection e with e;subst e;exact hg.1),by rw [flat_last];exact ho,fun k e => ?_⟩
 simp only [Value.ownBlock,Option.some.injEq] at e
 subst e
 rcases hw with e | e
 ·injection e with e;subst e;exact hg
 ·have:=h.wk.size
  exact ⟨by omega,h.ws.fresh _ (by omega)⟩
theorem flat_set (x:OpN) (rest:List OpN):((x :: rest).reverse.flatMap opC).set (rest.length * 2 + 1) (.int .i64 ((x.d:Int) + 1)) = (OpN.mk x.p (x.d + 1) x.b x.o :: rest).reverse.flatMap opC:=by
 rw [flat_last,flat_last,List.set_append,if_neg (by rw [flat_rlen];omega),flat_rlen,Nat.add_sub_cancel_left]
 simp [opC]
theorem flat_take (x:OpN) (rest:List OpN):((x :: rest).reverse.flatMap opC).take (rest.length * 2) = rest.reverse.flatMap opC:=by
 rw [flat_last,← flat_rlen rest,List.take_left']
 rfl
theorem own_heap {w W:World} {t:TypeId} {size:Nat} {v:Value} {n:Nat} {xs:List Value} (h:w.ownsRow 0 t size v n xs) (e:W.heap = w.heap):W.ownsRow 0 t size v n xs:=by
 unfold World.ownsRow at h ⊢
 rw [e]
 exact h
end Go.Proofs.YtgkdmgndebifiaaGreatDoor
