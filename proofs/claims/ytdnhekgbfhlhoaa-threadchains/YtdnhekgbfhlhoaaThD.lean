/- Unreach: the blocks that are come to, moved up. -/
import Derived.Test.YtdnhekgbfhlhoaaThM
import Derived.Test.YtdnhekgbfhlhoaaThG
set_option linter.unusedSimpArgs false
set_option linter.unusedVariables false
set_option maxRecDepth 10000
namespace Go.Proofs.Ytdnhekgbfhlhoaa
open Go.RowKit

set_option maxHeartbeats 1000000 in
theorem reachT_w (ga : Option Addr) (gc : Nat) (g : List (List Int)) (w : World) (K : Nat) (F : GW) (hg : RepG w (In w) ga g) (hf : Few g) (hK : K ≤ 7000000) (hF : gWalk g K = some F) :
    Calls Try.prog 33 #[.slice ga g.length gc] w fun e w' => ∃ S, e = .returned (.slice (some ⟨S, 0, none⟩) g.length g.length) ∧ w.heap.size ≤ S ∧ Row w' S 4 (bsV F.shut) ∧ F.shut.length = g.length ∧ Ext w w' := by
  have H := hide (walkOf_w ga gc g w K F hg hf hK hF)
  clear hg hf hF
  go_enter Try.func33, Try.ntmps33
  go_wp2_with (go_at_call 46; refine Calls.mono (unhide H) ?_; rintro e w1 ⟨B, S, N, Y, ma, mc, la, lc, rfl, s1⟩; have S1 := hide s1; have c1 : w1.cell? ⟨B, 1, none⟩ = some (.slice (some ⟨S, 0, none⟩) g.length g.length) := s1.rB.cell 1 rfl; clear s1)
  go_ret
  exact ⟨S, rfl, (unhide S1).bs.2.1, (unhide S1).rS, (unhide S1).len.1, (unhide S1).ext⟩

/-- A row that is not of these cells stays where another grows. -/
theorem row_own {w w3 : World} {q : Nat} {t : TypeId} {cs : List Value} {base : Nat} {e : TypeId} {size n : Nat} {v : Value} {xs : List Value} (h : Row w q t cs) (ho : w.ownsRow base e size v n xs) (g1 : w.grownBy w3 v.ownBlock) (hne : t ≠ e) : Row w3 q t cs := by
  refine (g1.block q (k_lt h) (fun e1 => ?_)).trans h
  obtain ⟨_, ⟨rfl, _⟩ | ⟨g, cap, cur, rfl, _, hg, _⟩⟩ := ho
  · cases e1
  · simp only [Value.ownBlock, Option.some.injEq] at e1
    subst e1
    unfold Row at h
    rw [h] at hg
    injection hg with hg
    injection hg with _ e2 _
    exact hne e2

/-- Blocks under way, none of them yet perhaps. -/
structure BlA (w : World) (base : Nat) (va : Option Addr) (vc : Nat) (l : List RB) (ads : List (Option Addr × Nat)) : Prop where
  len : ads.length = l.length
  own : w.ownsRow base 37 5 (.slice va l.length vc) l.length (bC l ads)
  ins : ∀ (i : Nat) (b : RB) (d : Option Addr × Nat), l[i]? = some b → ads[i]? = some d → w.ownsRow base 32 12 (.slice d.1 b.c d.2) b.c (outs b.c)
  nz : ∀ (i : Nat) (b : RB) (d : Option Addr × Nat), l[i]? = some b → ads[i]? = some d → b.c = 0 → d = (none, 0)
theorem BlA.nil (w : World) (base : Nat) : BlA w base none 0 [] [] := ⟨rfl, World.ownsRow_nil _ _ _ _, fun i b d h => by simp at h, fun i b d h => by simp at h⟩
theorem BlA.on {w w' : World} {base vc : Nat} {va : Option Addr} {l : List RB} {ads : List (Option Addr × Nat)} (h : BlA w base va vc l ads) (k : Ext w w') : BlA w' base va vc l ads :=
  ⟨h.len, k_own_heap h.own (fun q hq => k.block q (h.own.lt q hq).2), fun i b d h1 h2 => k_own_heap (h.ins i b d h1 h2) (fun q hq => k.block q ((h.ins i b d h1 h2).lt q hq).2), h.nz⟩
/-- Where a block of other cells has turned. -/
theorem BlA.set {w : World} {base vc r i : Nat} {va : Option Addr} {l : List RB} {ads : List (Option Addr × Nat)} {cs : List Value} {t : TypeId} (h : BlA w base va vc l ads) (hr : Row w r t cs) (h1 : t ≠ 37) (h2 : t ≠ 32) (v : Value) : BlA (w.setCell ⟨r, i, none⟩ v) base va vc l ads := by
  have key : ∀ {e : TypeId} {size n : Nat} {u : Value} {xs : List Value}, w.ownsRow base e size u n xs → t ≠ e → (w.setCell ⟨r, i, none⟩ v).ownsRow base e size u n xs := by
    intro e size n u xs ho hne
    refine k_own_heap ho (fun q hq => k_row_other rfl (fun e1 => ?_) _ _)
    subst e1
    obtain ⟨_, ⟨rfl, _⟩ | ⟨g, cap, cur, rfl, _, hg, _⟩⟩ := ho
    · cases hq
    · simp only [Value.ownBlock, Option.some.injEq] at hq
      subst hq
      unfold Row at hr
      rw [hr] at hg
      injection hg with hg
      injection hg with _ e2 _
      exact hne e2
  exact ⟨h.len, key h.own h1, fun i b d h3 h4 => key (h.ins i b d h3 h4) h2, h.nz⟩
theorem BlA.push {w w3 : World} {base vc g' cap' : Nat} {va : Option Addr} {l : List RB} {ads : List (Option Addr × Nat)} {ob : Obj} (h : BlA w base va vc l ads) (b : RB) (d : Option Addr × Nat) (hz : b.c = 0 → d = (none, 0)) (hb : w.ownsRow base 32 12 (.slice d.1 b.c d.2) b.c (outs b.c))
    (g1 : (w.alloc ob).grownBy w3 (Value.slice va l.length vc).ownBlock) (ho : w3.ownsRow base 37 5 (.slice (some ⟨g', 0, none⟩) (l.length + 1) cap') (l.length + 1) (bC l ads ++ rbC b d)) : BlA w3 base (some ⟨g', 0, none⟩) cap' (l ++ [b]) (ads ++ [d]) := by
  have key : ∀ {n : Nat} {v : Value} {xs : List Value}, w.ownsRow base 32 12 v n xs → w3.ownsRow base 32 12 v n xs := by
    intro n v xs hi
    refine k_own_heap hi (fun q hq => ?_)
    have hq2 := (hi.lt q hq).2
    refine (g1.block q (Nat.lt_of_lt_of_le hq2 (Ext.alloc w ob).size) (fun e => ?_)).trans ((Ext.alloc w ob).block q hq2)
    rcases own_twoB hi h.own (by decide) with e1 | e1
    · rw [e1] at hq; cases hq
    · exact e1 (by rw [hq, e])
  refine ⟨by simp [h.len], ?_, fun i b2 d2 h1 h2 => ?_, fun i b2 d2 h1 h2 h0 => ?_⟩
  · rw [bC_app _ _ _ _ h.len]
    simpa [bC] using ho
  · by_cases hi : i < l.length
    · rw [List.getElem?_append_left hi] at h1
      rw [List.getElem?_append_left (by rw [h.len]; exact hi)] at h2
      exact key (h.ins i b2 d2 h1 h2)
    · rw [List.getElem?_append_right (by omega)] at h1
      rw [List.getElem?_append_right (by rw [h.len]; omega), h.len] at h2
      obtain ⟨k, hk⟩ : ∃ k, k = i - l.length := ⟨_, rfl⟩
      rw [← hk] at h1 h2
      cases k with
      | zero =>
        simp at h1 h2
        subst h1 h2
        exact key hb
      | succ k => simp at h1
  · by_cases hi : i < l.length
    · rw [List.getElem?_append_left hi] at h1
      rw [List.getElem?_append_left (by rw [h.len]; exact hi)] at h2
      exact h.nz i b2 d2 h1 h2 h0
    · rw [List.getElem?_append_right (by omega)] at h1
      rw [List.getElem?_append_right (by rw [h.len]; omega), h.len] at h2
      obtain ⟨k, hk⟩ : ∃ k, k = i - l.length := ⟨_, rfl⟩
      rw [← hk] at h1 h2
      cases k with
      | zero =>
        simp at h1 h2
        subst h1 h2
        exact hz h0
      | succ k => simp at h1
theorem BlA.full {w : World} {base vc : Nat} {va : Option Addr} {l : List RB} {ads : List (Option Addr × Nat)} (h : BlA w base va vc l ads) (hl : 0 < l.length) : ∃ g, va = some ⟨g, 0, none⟩ ∧ BlS w base g vc l ads := by
  obtain ⟨_, ⟨_, h0⟩ | ⟨g, cap, cur, e, _⟩⟩ := id h.own
  · omega
  · injection e with e1 e2 e3
    subst e1
    exact ⟨g, rfl, h.len, h.own, h.ins, h.nz⟩

/-- Of the first blocks those that are come to. -/
def keepL (l : List RB) (rc : List Bool) (i : Nat) : List RB := ((l.zip rc).take i).filterMap (fun x => if x.2 then some x.1 else none)
theorem keepL_step {l : List RB} {rc : List Bool} {i : Nat} {b : RB} {r : Bool} (h : l[i]? = some b) (h' : rc[i]? = some r) : keepL l rc (i + 1) = keepL l rc i ++ (if r then [b] else []) := by
  unfold keepL
  have hz : (l.zip rc)[i]? = some (b, r) := by
    rw [List.getElem?_zip_eq_some]
    exact ⟨h, h'⟩
  rw [List.take_add_one, hz, List.filterMap_append]
  cases r <;> simp
theorem keepL_len (l : List RB) (rc : List Bool) (i : Nat) : (keepL l rc i).length ≤ i := by
  unfold keepL
  refine Nat.le_trans (List.length_filterMap_le _ _) ?_
  rw [List.length_take]
  omega
/-- Under way: the first i blocks are looked at. -/
structure DrI (w wr : World) (base : Nat) (l : List RB) (rc : List Bool) (Q S : Nat) (va : Option Addr) (vc : Nat) (ads2 : List (Option Addr × Nat)) (pls : List Int) (i : Nat) : Prop where
  ext : Ext w wr
  lf : BlA wr base va vc (keepL l rc i) ads2
  lb : ∀ q, (Value.slice va (keepL l rc i).length vc).ownBlock = some q → w.heap.size ≤ q
  up : w.heap.size ≤ Q ∧ w.heap.size ≤ S
  pl : Row wr Q 3 (zs pls)
  sh : Row wr S 4 (bsV rc)
  len : pls.length = l.length
  don : ∀ k : Nat, k < i → pls[k]? = some ((keepL l rc k).length : Int)
theorem DrI.skip {w wr : World} {base : Nat} {l : List RB} {rc : List Bool} {Q S : Nat} {va : Option Addr} {vc : Nat} {ads2 : List (Option Addr × Nat)} {pls : List Int} {i : Nat} {b : RB} (h : DrI w wr base l rc Q S va vc ads2 pls i) (hb : l[i]? = some b) (hr : rc[i]? = some false) :
    DrI w (wr.setCell ⟨Q, i, none⟩ (.int .i64 ((keepL l rc i).length : Int))) base l rc Q S va vc ads2 (pls.set i ((keepL l rc i).length : Int)) (i + 1) := by
  have e : keepL l rc (i + 1) = keepL l rc i := by rw [keepL_step hb hr]; simp
  have hQS : S ≠ Q := by
    rintro rfl
    have h1 := h.pl
    have h2 := h.sh
    unfold Row at h1 h2
    rw [h1] at h2
    injection h2 with h2
    injection h2 with _ h2 _
    exact absurd h2 (by decide)
  have hil := (List.getElem?_eq_some_iff.1 hb).1
  refine ⟨h.ext.set h.up.1 _, by rw [e]; exact h.lf.set h.pl (by decide) (by decide) _, by rw [e]; exact h.lb, h.up, ?_, h.sh.other hQS _ _, by rw [List.length_set]; exact h.len, fun k hk => ?_⟩
  · have := h.pl.set i (.int .i64 ((keepL l rc i).length : Int))
    rw [zs_set] at this
    exact this
  · rw [List.getElem?_set]
    split
    · rename_i e
      subst e
      first | rw [if_pos (by rw [h.len]; exact hil)] | rfl
    · exact h.don k (by omega)
theorem DrI.take {w wr w3 : World} {base : Nat} {l : List RB} {rc : List Bool} {Q S : Nat} {va : Option Addr} {vc g' cap' : Nat} {ads2 : List (Option Addr × Nat)} {pls : List Int} {i : Nat} {b : RB} {d : Option Addr × Nat} {ob : Obj} (h : DrI w wr base l rc Q S va vc ads2 pls i) (hb : l[i]? = some b) (hr : rc[i]? = some true)
    (hd : wr.ownsRow base 32 12 (.slice d.1 b.c d.2) b.c (outs b.c)) (hz : b.c = 0 → d = (none, 0))
    (g1 : ((wr.setCell ⟨Q, i, none⟩ (.int .i64 ((keepL l rc i).length : Int))).alloc ob).grownBy w3 (Value.slice va (keepL l rc i).length vc).ownBlock)
    (ho : w3.ownsRow base 37 5 (.slice (some ⟨g', 0, none⟩) ((keepL l rc i).length + 1) cap') ((keepL l rc i).length + 1) (bC (keepL l rc i) ads2 ++ rbC b d))
    (hg : (Value.slice va (keepL l rc i).length vc).ownBlock = some g' ∨ (wr.setCell ⟨Q, i, none⟩ (.int .i64 ((keepL l rc i).length : Int))).heap.size + 1 ≤ g') :
    DrI w w3 base l rc Q S (some ⟨g', 0, none⟩) cap' (ads2 ++ [d]) (pls.set i ((keepL l rc i).length : Int)) (i + 1) := by
  have e : keepL l rc (i + 1) = keepL l rc i ++ [b] := by rw [keepL_step hb hr]; simp
  have hQS : S ≠ Q := by
    rintro rfl
    have h1 := h.pl
    have h2 := h.sh
    unfold Row at h1 h2
    rw [h1] at h2
    injection h2 with h2
    injection h2 with _ h2 _
    exact absurd h2 (by decide)
  have hil := (List.getElem?_eq_some_iff.1 hb).1
  have x1 : Ext w (wr.setCell ⟨Q, i, none⟩ (.int .i64 ((keepL l rc i).length : Int))) := h.ext.set h.up.1 _
  have x2 : Ext w ((wr.setCell ⟨Q, i, none⟩ (.int .i64 ((keepL l rc i).length : Int))).alloc ob) := x1.trans (Ext.alloc _ _)
  have lf1 : BlA (wr.setCell ⟨Q, i, none⟩ (.int .i64 ((keepL l rc i).length : Int))) base va vc (keepL l rc i) ads2 := h.lf.set h.pl (by decide) (by decide) _
  have pl1 : Row (wr.setCell ⟨Q, i, none⟩ (.int .i64 ((keepL l rc i).length : Int))) Q 3 (zs (pls.set i ((keepL l rc i).length : Int))) := by
    have := h.pl.set i (.int .i64 ((keepL l rc i).length : Int))
    rw [zs_set] at this
    exact this
  have sh1 := h.sh.other hQS i (.int .i64 ((keepL l rc i).length : Int))
  have lf2 := lf1.on (Ext.alloc _ ob)
  have hd1 : (wr.setCell ⟨Q, i, none⟩ (.int .i64 ((keepL l rc i).length : Int))).ownsRow base 32 12 (.slice d.1 b.c d.2) b.c (outs b.c) := by
    refine k_own_heap hd (fun q hq => k_row_other rfl (fun e1 => ?_) _ _)
    subst e1
    obtain ⟨_, ⟨e2, _⟩ | ⟨g, cap, cur, e2, _, hg2, _⟩⟩ := hd
    · rw [e2] at hq; cases hq
    · rw [e2] at hq
      simp only [Value.ownBlock, Option.some.injEq] at hq
      subst hq
      have h2 := h.pl
      unfold Row at h2
      rw [h2] at hg2
      injection hg2 with hg2
      injection hg2 with _ hg2 _
      exact absurd hg2 (by decide)
  refine ⟨?_, by rw [e]; exact lf1.push b d hz hd1 g1 ho, fun q hq => ?_, h.up, row_own (pl1.on (Ext.alloc _ ob)) lf2.own g1 (by decide), row_own (sh1.on (Ext.alloc _ ob)) lf2.own g1 (by decide), by rw [List.length_set]; exact h.len, fun k hk => ?_⟩
  · refine ⟨g1.os.trans x2.os, g1.tape.trans x2.tape, g1.output.trans x2.output, Nat.le_trans x2.size g1.size, fun q hq => (g1.block q (Nat.lt_of_lt_of_le hq x2.size) (fun e1 => ?_)).trans (x2.block q hq)⟩
    have := h.lb q e1.symm
    omega
  · simp only [Value.ownBlock, Option.some.injEq] at hq
    subst hq
    rcases hg with hg | hg
    · exact h.lb _ hg
    · have := x1.size
      omega
  · rw [List.getElem?_set]
    split
    · rename_i e
      subst e
      first | rw [if_pos (by rw [h.len]; exact hil)] | rfl
    · exact h.don k (by omega)

theorem one_rbC (b : RB) (d : Option Addr × Nat) : ∀ u ∈ rbC b d, u.oneCell' = true := by
  intro u h
  simp at h
  rcases h with rfl | rfl | rfl | rfl | rfl <;> rfl
/-- A function in a box of its own. -/
abbrev cdC (nm : ByteArray) (ps rg : Int) (g n cap : Nat) : List Value := [.string nm, .int .i64 ps, .int .i64 rg, .slice (some ⟨g, 0, none⟩) n cap]
/-- What is left of the blocks. -/
def dropP (l : List RB) (rc : List Bool) : List RB := (keepL l rc l.length).map (fun b => ⟨b.c, ledP (mvP ((List.range l.length).map (fun k => ((keepL l rc k).length : Int)))) b.t⟩)

set_option maxHeartbeats 4000000 in
theorem drop_w (C base g cap : Nat) (nm : ByteArray) (ps rg : Int) (l : List RB) (ads : List (Option Addr × Nat)) (rc : List Bool) (K : Nat) (F : GW) (w : World) (hn : 0 < l.length) (hn2 : l.length ≤ 1000) (hK : K ≤ 7000000) (hF : gWalk (l.map (fun b => waysP b.t)) K = some F) (hrc : F.shut = rc) (h0 : 0 < (keepL l rc l.length).length)
    (hC : Row w C 73 (cdC nm ps rg g l.length cap)) (hb : BlS w base g cap l ads) (hbw : base ≤ w.heap.size) :
    Calls Try.prog 21 #[.pointer (some ⟨C, 0, none⟩)] w fun e w' => e = .returned (.tuple #[]) ∧ ∃ g2 cap2 ads2, Row w' C 73 (cdC nm ps rg g2 (dropP l rc).length cap2) ∧ BlS w' base g2 cap2 (dropP l rc) ads2 ∧ w.heap.size ≤ g2 ∧ w.grownBy w' (some C) := by
  have hGr := hide (fun (W : World) (x : Ext w W) => graph_w nm ps rg (some ⟨g, 0, none⟩) cap l ads W (by omega) (hb.rep.to (F' := In W) fun q hq => ⟨Nat.lt_of_lt_of_le hq.2 x.size, x.block q hq.2⟩))
  have hlm : (l.map (fun b => waysP b.t)).length = l.length := by simp
  have hfew : Few (l.map (fun b => waysP b.t)) := by
    refine ⟨by simp; omega, fun x hx => ?_⟩
    rw [List.mem_map] at hx
    obtain ⟨b, _, rfl⟩ := hx
    unfold waysP
    split
    · simp
    · split <;> simp
  have hRe := hide (fun (W : World) (P : Nat) (x : RepG W (In W) (some ⟨P, 0, none⟩) (l.map (fun b => waysP b.t))) => reachT_w (some ⟨P, 0, none⟩) l.length (l.map (fun b => waysP b.t)) W K F x hfew hK hF)
  rw [hlm, hrc] at hRe
  have HB := hide hb
  have HCr := hide hC
  have hmk := fun W => make_ints l.length (by omega) W
  have q0 := hC.cell 0 rfl
  have q1 := hC.cell 1 rfl
  have q2 := hC.cell 2 rfl
  have q3 := hC.cell 3 rfl
  obtain ⟨n, hln⟩ : ∃ n, n = l.length := ⟨_, rfl⟩
  have HN := hide hln
  have HCw := hide (k_lt hC)
  rw [← hln] at q3 hGr hRe hmk hn hn2
  have hQ : Row (w.alloc (.cells (zs (List.replicate n 0)).toArray 3)) w.heap.size 3 (zs (List.replicate n 0)) := Row.new _ _ _
  obtain ⟨cz, hcz⟩ : ∃ cz, cz = (zs (List.replicate n 0)).toArray := ⟨_, rfl⟩
  rw [← hcz] at hmk hQ
  have HQ := hide hQ
  have q0a := fun ob => (Ext.alloc w ob).cell q0
  have q1a := fun ob => (Ext.alloc w ob).cell q1
  have q2a := fun ob => (Ext.alloc w ob).cell q2
  have q3a := fun ob => (Ext.alloc w ob).cell q3
  clear hlm hfew hb hC hln hF hrc hQ hcz
  obtain ⟨i0, hi, hz0, hz1, hz2⟩ := k_infoK
  have HI := hide hi
  have Z0 := hide hz0
  have Z1 := hide hz1
  have Z2 := hide hz2
  clear hi hz0 hz1 hz2
  have HH0 := hide h0
  have HBw := hide hbw
  clear h0
  go_enter Try.func21, Try.ntmps21
  go_wp2_with (first
    | (go_at_call 34; refine Calls.mono (unhide hGr _ (Ext.alloc _ _)) ?_; rintro e w1 ⟨P, rfl, hP, hg, x1⟩; have X1 := hide x1; have HG := hide hg; clear x1 hg hP)
    | (go_at_call 33; refine Calls.mono (unhide hRe _ _ (unhide HG)) ?_; rintro e w2 ⟨S, rfl, hS, hr, hrl, x2⟩; have X2 := hide x2; have HS := hide hS; have HRow := hide hr; have HRl := hide hrl; clear x2 hr hrl hS))
  obtain ⟨Q, hQe⟩ : ∃ Q, Q = w.heap.size := ⟨_, rfl⟩
  have S0 : Hd (DrI w w2 base l rc Q S none 0 [] (List.replicate n 0) 0) := by
    have x := ((Ext.alloc w (.cells cz 3)).trans (unhide X1)).trans (unhide X2)
    refine ⟨x, BlA.nil _ _, fun q hq => (by cases hq), ⟨by omega, ?_⟩, ?_, unhide HRow, by rw [← unhide HN]; simp, fun k hk => by omega⟩
    · exact Nat.le_trans ((Ext.alloc w (.cells cz 3)).trans (unhide X1)).size (unhide HS)
    · rw [hQe]
      exact (unhide HQ).on ((unhide X1).trans (unhide X2))
  rw [← hQe]
  have HQe := hide hQe
  clear hQe hmk q0a q1a q2a q3a q0 q1 q2 q3
  go_loopw [2, 20] (fun t2 t wr => ∃ (i m : Nat) (va : Option Addr) (vc : Nat) (ads2 : List (Option Addr × Nat)) (pls : List Int), t2 = .slice va m vc ∧ t = .int .i64 (i : Int) ∧ i ≤ n ∧ m ≤ n ∧ Hd (m = (keepL l rc i).length) ∧ Hd (DrI w wr base l rc Q S va vc ads2 pls i)) (fun _ t _ => n - (intOf t).toNat)
  case atStart => exact ⟨0, 0, none, 0, [], _, rfl, rfl, by omega, by omega, rfl, S0⟩
  case round =>
    clear S0
    obtain ⟨i, m, va, vc, ads2, pls, rfl, rfl, hi, hmn, hm, hS⟩ := hrel
    by_cases hlt : i < n
    · obtain ⟨b, hb⟩ : ∃ b, l[i]? = some b := ⟨_, List.getElem?_eq_getElem (by rw [← unhide HN]; exact hlt)⟩
      obtain ⟨r, hr⟩ : ∃ r, rc[i]? = some r := ⟨_, List.getElem?_eq_getElem (by rw [unhide HRl]; exact hlt)⟩
      obtain ⟨x0, hx0⟩ : ∃ x0, pls[i]? = some x0 := ⟨_, List.getElem?_eq_getElem (by rw [(unhide hS).len, ← unhide HN]; exact hlt)⟩
      have bl := (unhide HB).on (unhide hS).ext
      obtain ⟨d, hd, c0, c1, c2, c3, c4⟩ := bl.cells hb
      have cS := (unhide hS).sh.cell i (bs_at hr)
      have cQ := (unhide hS).pl.cell i (zs_at hx0)
      have fQ := fun j : Nat => k_rowF (unhide hS).pl j
      have hCQ : C ≠ Q := by have := unhide HCw; have := unhide HQe; omega
      have hgQ : g ≠ Q := by have := (unhide HB).row.2.1; have := unhide HQe; omega
      have q3 := ((unhide HCr).on (unhide hS).ext).cell 3 rfl
      rw [← unhide HN] at q3
      have Hm := unhide hm
      have hmi : (keepL l rc i).length ≤ i := keepL_len l rc i
      have hin := bl.ins i b d hb hd
      have hnz := bl.nz i b d hb hd
      cases r with
      | false =>
        have S2 := hide ((unhide hS).skip hb hr)
        have hm2 : Hd (m = (keepL l rc (i + 1)).length) := by unfold Hd; rw [keepL_step hb hr, Hm]; simp
        rw [← Hm] at S2
        have hlt2 : (i : Int) < (n : Int) := by omega
        clear hb hr hx0 bl hd Hm hin hnz hS hm
        go_wp2_with fail
        go_roundw
        case rel => exact ⟨i + 1, m, va, vc, ads2, _, rfl, by go_num, by omega, hmn, hm2, S2⟩
        case measure => simp [intOf]; omega
      | true =>
        have hm2 : Hd (m + 1 = (keepL l rc (i + 1)).length) := by unfold Hd; rw [keepL_step hb hr, Hm]; simp
        have HT := hide (fun (w3 : World) (ob : Obj) (g' cap' : Nat) => (unhide hS).take (w3 := w3) (ob := ob) (g' := g') (cap' := cap') hb hr hin hnz)
        have HO : Hd (∀ ob, ((wr.setCell ⟨Q, i, none⟩ (.int .i64 (m : Int))).alloc ob).ownsRow base 37 5 (.slice va m vc) m (bC (keepL l rc i) ads2)) := fun ob => by
          have := ((((unhide hS).lf.set (i := i) (unhide hS).pl (by decide) (by decide) (.int .i64 (m : Int))).on (Ext.alloc _ ob))).own
          rw [← Hm] at this
          exact this
        rw [← Hm] at HT
        have HX := hide (unhide hS).ext
        have c0' : (wr.setCell ⟨Q, i, none⟩ (.int .i64 (m : Int))).cell? ⟨g, i * 5, none⟩ = some (.slice d.1 b.c d.2) := by rw [← c0]; exact World.cell?_of_block (k_row_other rfl hgQ _ _)
        have c1' : (wr.setCell ⟨Q, i, none⟩ (.int .i64 (m : Int))).cell? ⟨g, i * 5 + 1, none⟩ = some (.int .i64 b.t.k) := by rw [← c1]; exact World.cell?_of_block (k_row_other rfl hgQ _ _)
        have c2' : (wr.setCell ⟨Q, i, none⟩ (.int .i64 (m : Int))).cell? ⟨g, i * 5 + 2, none⟩ = some (.int .i64 b.t.a) := by rw [← c2]; exact World.cell?_of_block (k_row_other rfl hgQ _ _)
        have c3' : (wr.setCell ⟨Q, i, none⟩ (.int .i64 (m : Int))).cell? ⟨g, i * 5 + 3, none⟩ = some (.int .i64 b.t.t) := by rw [← c3]; exact World.cell?_of_block (k_row_other rfl hgQ _ _)
        have c4' : (wr.setCell ⟨Q, i, none⟩ (.int .i64 (m : Int))).cell? ⟨g, i * 5 + 4, none⟩ = some (.int .i64 b.t.e) := by rw [← c4]; exact World.cell?_of_block (k_row_other rfl hgQ _ _)
        have q3' : (wr.setCell ⟨Q, i, none⟩ (.int .i64 (m : Int))).cell? ⟨C, 3, none⟩ = some (.slice (some ⟨g, 0, none⟩) n cap) := by rw [← q3]; exact World.cell?_of_block (k_row_other rfl hCQ _ _)
        have hlt2 : (i : Int) < (n : Int) := by omega
        have hmb : m ≤ i := by omega
        clear hb hr hx0 bl hd Hm hin hnz hS hm c0 c1 c2 c3 c4 q3
        go_wp2_with (at_builtin; refine kapp_list rfl (.tmp 31) (.tmp 40) 22 rfl base 37 i0 (.agg #[.slice none 0 0, .int .i64 0, .int .i64 0, .int .i64 0, .int .i64 0]) 5 56 Try.underlying22 (unhide HI) (unhide Z0) (unhide Z1) (unhide Z2) rfl (by decide) va m vc (bC (keepL l rc i) ads2) rfl (unhide HO _) ⟨wr.heap.size, 0, none⟩ 1 1 (rbC b d) rfl (by decide) rfl (k_new _ _ (by simp [World.setCell]) _ _) (one_rbC b d) ?c1 ?c2 ?c3 ?_)
        case c1 => unfold maxLen; omega
        case c2 => omega
        case c3 => have := (unhide HX).size; have := unhide HBw; simp only [World.alloc, World.setCell, Array.size_push, Array.size_modify]; omega
        intro g' cap' w3 ho hgr hw
        have S3 := hide (unhide HT w3 _ g' cap' hgr ho (by rcases hw with hw | hw; exact Or.inl hw; exact Or.inr (by simpa [World.setCell] using hw)))
        clear ho hgr hw HT HO c0' c1' c2' c3' c4' q3'
        go_wp2_with fail
        go_roundw
        case rel => exact ⟨i + 1, m + 1, _, _, _, _, rfl, by go_num, by omega, by omega, hm2, S3⟩
        case measure => simp [intOf]; omega
    · obtain rfl : i = n := by omega
      have hS2 := unhide hS
      have hD : DrI w wr base l rc Q S va vc ads2 pls l.length := by
        have e : i = l.length := unhide HN
        rw [e] at hS2
        exact hS2
      have hm3 : m = (keepL l rc l.length).length := by
        have e : i = l.length := unhide HN
        have := unhide hm
        rw [e] at this
        exact this
      obtain ⟨g2, rfl, hB2⟩ := hD.lf.full (unhide HH0)
      have hpls : pls = (List.range l.length).map (fun k => ((keepL l rc k).length : Int)) := by
        apply List.ext_getElem?
        intro k
        by_cases hk : k < l.length
        · rw [hD.don k hk, List.getElem?_map, List.getElem?_range hk]
          rfl
        · rw [List.getElem?_eq_none (by rw [hD.len]; omega), List.getElem?_eq_none (by simp; omega)]
      have hg2 : w.heap.size ≤ g2 := hD.lb g2 rfl
      have hQg : Q ≠ g2 := by
        rintro rfl
        obtain ⟨_, _, _, _, cur, hc⟩ := hB2.row
        have h2 := hD.pl
        unfold Row at h2
        rw [hc] at h2
        injection h2 with h2
        injection h2 with _ h2 _
        exact absurd h2 (by decide)
      have hCg : C ≠ g2 := by have := unhide HCw; omega
      have hRI : RepI wr (fun q => q < wr.heap.size ∧ q ≠ g2) (some ⟨Q, 0, none⟩) pls := Or.inr ⟨Q, 0, rfl, ⟨k_lt hD.pl, hQg⟩, fun j x hx => by rw [Nat.zero_add]; exact hD.pl.cell j (zs_at hx)⟩
      have hpl : i = pls.length := by rw [hD.len]; exact unhide HN
      have HM := hide (move_w base g2 vc (keepL l rc l.length) ads2 (some ⟨Q, 0, none⟩) i i pls wr (by have := keepL_len l rc l.length; have : i = l.length := unhide HN; omega) hpl (by omega) hB2 hRI)
      rw [← hm3, hpls] at HM
      have HCw3 := hide ((unhide HCr).on hD.ext)
      have HX := hide hD.ext
      have HG2 := hide hg2
      have HCg := hide hCg
      have HM3 := hide hm3
      clear hS hS2 hD hm3 hB2 hpls hg2 hQg hRI hpl hm hCg
      go_wp2_with (go_at_call 25; refine Calls.mono (unhide HM) ?_; rintro e w3 ⟨rfl, b3, g3⟩; have B3 := hide b3; have G3 := hide g3; have R3 := hide (gb_row g3 (unhide HCw3) (unhide HCg)); have k3 := k_rowC (unhide R3) 3 rfl; have f3 := (fun j : Nat => k_rowF (unhide R3) j); clear b3 g3)
      have hlen : (dropP l rc).length = m := by unfold dropP; rw [List.length_map, ← unhide HM3]
      refine bodyPost_end (v := .tuple #[]) (by simp [results, Try.results21]) rfl ⟨rfl, g2, vc, ads2, ?_, ?_, unhide HG2, ?_⟩
      · have := k_row_set (unhide R3) 3 (.slice (some ⟨g2, 0, none⟩) m vc)
        rw [hlen]
        simpa using this
      · exact (unhide B3).grown (k_grown_set w3 C 3 (.slice (some ⟨g2, 0, none⟩) m vc)) (unhide R3) (by decide) (by decide)
      · exact gb_trans (gb_new (gb_ext (unhide HX) _) (unhide G3) (unhide HG2)) (k_grown_set _ _ _ _)

end Go.Proofs.Ytdnhekgbfhlhoaa
