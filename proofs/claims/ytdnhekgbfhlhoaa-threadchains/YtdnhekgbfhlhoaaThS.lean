/- Two blocks of which the first jumps to the second, laid together. -/
import Derived.Test.YtdnhekgbfhlhoaaThQ
set_option linter.unusedSimpArgs false
set_option linter.unusedVariables false
set_option maxRecDepth 10000
namespace Go.Proofs.Ytdnhekgbfhlhoaa
open Go.RowKit

set_option maxHeartbeats 4000000 in
theorem behind_w (N : Nat) (w : World) (hN : Row w N 3 (zs [1, -1])) :
    Calls Try.prog 23 #[.slice (some ⟨N, 0, none⟩) 2 2] w fun e w' => ∃ S, e = .returned (.slice (some ⟨S, 0, none⟩) 2 2) ∧ w.heap.size ≤ S ∧ Row w' S 4 (bsV [false, true]) ∧ Ext w w' := by
  have hmk : ∀ W : World, (Instr.makeSlice 60 (.int .i64 2) (.int .i64 2)).run Try.prog W = .ok (.slice (some ⟨W.heap.size, 0, none⟩) 2 2) (W.alloc (.cells (bsV (List.replicate 2 false)).toArray 4)) := fun W => make_bools 2 (by decide) W
  obtain ⟨cz, hcz⟩ : ∃ cz, cz = (bsV (List.replicate 2 false)).toArray := ⟨_, rfl⟩
  rw [← hcz] at hmk
  obtain ⟨S, hS⟩ : ∃ S, S = w.heap.size := ⟨_, rfl⟩
  have hR0 : Hd (Row (w.alloc (.cells cz 4)) S 4 (bsV [false, false])) := by rw [hcz, hS]; exact Row.new w (bsV [false, false]) 4
  have HN := hide hN
  have HSe := hide hS
  have y0 : w.cell? ⟨N, 0, none⟩ = some (.int .i64 1) := hN.cell 0 rfl
  clear hcz hN hS
  go_enter Try.func23, Try.ntmps23
  go_wp2_with fail
  rw [← unhide HSe]
  clear hmk
  go_loopw [11] (fun t wr => ∃ j v, t = .int .i64 (j : Int) ∧ ((j = 0 ∧ v = [false, false]) ∨ ((j = 1 ∨ j = 2) ∧ v = [false, true])) ∧ Hd (Row wr S 4 (bsV v)) ∧ Hd (Ext w wr)) (fun t _ => 2 - (intOf t).toNat)
  case atStart => exact ⟨0, _, rfl, Or.inl ⟨rfl, rfl⟩, hR0, Ext.alloc _ _⟩
  case round =>
    obtain ⟨j, v, rfl, hj, hR, hX⟩ := hrel
    have fS := fun i : Nat => k_rowF (unhide hR) i
    have n0 : wr.cell? ⟨N, 0, none⟩ = some (.int .i64 1) := ((unhide HN).on (unhide hX)).cell 0 rfl
    have n1 : wr.cell? ⟨N, 1, none⟩ = some (.int .i64 (-1)) := ((unhide HN).on (unhide hX)).cell 1 rfl
    rcases hj with ⟨rfl, rfl⟩ | ⟨rfl | rfl, rfl⟩
    · have s0 := (unhide hR).cell 0 rfl
      have s1 := (unhide hR).cell 1 rfl
      have hRI := hR
      go_wp2_with fail
      go_loopw [5] (fun t wq => (t = .int .i64 1 ∧ wq = wr) ∨ (t = .int .i64 (-1) ∧ Hd (Row wq S 4 (bsV [false, true])) ∧ Hd (Ext w wq))) (fun t _ => (intOf t + 1).toNat)
      case atStart => exact Or.inl ⟨rfl, rfl⟩
      case round =>
        rcases hrel with ⟨rfl, rfl⟩ | ⟨rfl, hR2, hX2⟩
        · have hNS : N ≠ S := by have := k_lt (unhide HN); have := unhide HSe; omega
          have n1' : (wr.setCell ⟨S, 1, none⟩ (.bool true)).cell? ⟨N, 1, none⟩ = some (.int .i64 (-1)) := (World.cell?_of_block (k_row_other rfl hNS _ _)).trans n1
          go_wp2_with fail
          refine ⟨Or.inr ⟨rfl, ?_, ?_⟩, by decide⟩
          · exact (unhide hRI).set 1 (.bool true)
          · exact (unhide hX).set (by have := unhide HSe; show w.heap.size ≤ S; omega) _
        · go_wp2_with fail
          exact ⟨⟨1, [false, true], rfl, Or.inr ⟨Or.inl rfl, rfl⟩, hR2, hX2⟩, by decide⟩
    · have s1 : wr.cell? ⟨S, 1, none⟩ = some (.bool true) := (unhide hR).cell 1 rfl
      go_wp2_with fail
      exact ⟨⟨2, [false, true], rfl, Or.inr ⟨Or.inr rfl, rfl⟩, hR, hX⟩, by decide⟩
    · go_wp2_with fail
      go_ret
      exact ⟨S, rfl, by have := unhide HSe; omega, unhide hR, unhide hX⟩

/-- An append as one step of a region that draws its order. -/
theorem step_kapp {P : Program} {w : World} {ops : Array Oper} {o : Oper} {a : Act} {K : Act → World → Prop} {Q : Exit → Act → World → Prop} {E : Prop} (hg : o.guard = none) (s x : Operand) (t : TypeId)
    (hop : o.op = .call { callee := .builtin .append, args := #[s, x], argTypes := #[t, t] })
    (base : Nat) (e : TypeId) (i : TypeInfo) (z : Value) (size bytes : Nat) (ht : P.underlying t = some (.slice e)) (hi : P.info? e = some i) (hz : i.zero = some z)
    (hsize : i.size = size) (hby : i.bytes = bytes) (hzs : z.cells.size = size) (hsz : 0 < size)
    (ao : Option Addr) (n cap : Nat) (xs : List Value) (hs : a.eval s = .slice ao n cap) (hown : w.ownsRow base e size (.slice ao n cap) n xs)
    (ad : Addr) (m c : Nat) (news : List Value) (hx : a.eval x = .slice (some ad) m c) (hm : 0 < m) (hl : news.length = m * size) (hnews : ∀ j u, news[j]? = some u → w.cell? (ad.add j) = some u) (h1 : ∀ u ∈ news, u.oneCell' = true)
    (h63 : n + m ≤ maxLen) (hbytes : (n + m) * bytes ≤ 140737488355328) (hbase : base ≤ w.heap.size)
    (hK : ∀ g' cap' w', w'.ownsRow base e size (.slice (some ⟨g', 0, none⟩) (n + m) cap') (n + m) (xs ++ news) → w.grownBy w' (Value.slice ao n cap).ownBlock → ((Value.slice ao n cap).ownBlock = some g' ∨ w.heap.size ≤ g') → K (a.put o.dst (.slice (some ⟨g', 0, none⟩) (n + m) cap')) w') :
    if Region.wanted o (yielded ops a.tmps) = true then Oper.wp P o a w K Q else E := by
  have hw : Region.wanted o (yielded ops a.tmps) = true := by simp [Region.wanted, hg]
  rw [if_pos hw]
  obtain ⟨g', cap', w', hrun, r1, r2, r3⟩ := kapp_run (P := P) (w := w) base t o.type e i z size bytes ht hi hz hsize hby hzs hsz ao n cap xs hown ad m c news hm hl hnews h1 h63 hbytes hbase
  unfold Oper.wp
  simp [execOp, hop, resolve, invoke, builtin, hs, hx, hrun, Result.andThen]
  exact hK g' cap' w' r1 r2 r3
theorem own_oth {w : World} {q i : Nat} {t : TypeId} {cs : List Value} {base : Nat} {e : TypeId} {size n : Nat} {u : Value} {xs : List Value} (h : w.ownsRow base e size u n xs) (hr : Row w q t cs) (hne : t ≠ e) (v : Value) : (w.setCell ⟨q, i, none⟩ v).ownsRow base e size u n xs := by
  refine k_own_heap h (fun p hp => k_row_other rfl (fun e1 => ?_) _ _)
  subst e1
  obtain ⟨_, ⟨rfl, _⟩ | ⟨g, cap, cur, rfl, _, hg, _⟩⟩ := h
  · cases hp
  · simp only [Value.ownBlock, Option.some.injEq] at hp
    subst hp
    unfold Row at hr
    rw [hr] at hg
    injection hg with hg
    injection hg with _ e2 _
    exact hne e2
/-- Two boxes of blocks. -/
theorem two_rows (w : World) (A B : List Value) (t : TypeId) : Row ((w.alloc (.cells A.toArray t)).alloc (.cells B.toArray t)) w.heap.size t A ∧ Row ((w.alloc (.cells A.toArray t)).alloc (.cells B.toArray t)) (w.heap.size + 1) t B := by
  refine ⟨(Row.new w A t).on (Ext.alloc _ _), ?_⟩
  have := Row.new (w.alloc (.cells A.toArray t)) B t
  rw [sz1] at this
  exact this

set_option maxHeartbeats 4000000 in
theorem row_w (base g cap c0 c1 N : Nat) (ads : List (Option Addr × Nat)) (w : World) (hc : (c0 = 0 ∧ c1 = 0) ∨ (c0 = 1 ∧ c1 = 1)) (hb : BlS w base g cap (tw c0 c1) ads) (hbw : base ≤ w.heap.size) (hN : Row w N 3 (zs [1, -1])) :
    Calls Try.prog 24 #[.slice (some ⟨g, 0, none⟩) 2 cap, .slice (some ⟨N, 0, none⟩) 2 2, .int .i64 0] w fun e w' => ∃ d : Option Addr × Nat, e = .returned (rbV ⟨c0 + c1, ⟨3, 0, 0, 0⟩⟩ d) ∧ w'.ownsRow base 32 12 (.slice d.1 (c0 + c1) d.2) (c0 + c1) (outs (c0 + c1)) ∧ (c0 + c1 = 0 → d = (none, 0)) ∧
      (w.grownBy w' none ∨ ∃ q cs, w.heap[q]? = some (.cells cs 32 (0, 0)) ∧ base ≤ q ∧ w.grownBy w' (some q)) := by
  obtain ⟨d0, hd0, c00, c01, c02, c03, c04⟩ := hb.cells (i := 0) rfl
  obtain ⟨d1, hd1, c10, c11, c12, c13, c14⟩ := hb.cells (i := 1) rfl
  have i0 := hb.ins 0 _ d0 rfl hd0
  have i1 := hb.ins 1 _ d1 rfl hd1
  have z0 := hb.nz 0 _ d0 rfl hd0
  have z1 := hb.nz 1 _ d1 rfl hd1
  have n0 : w.cell? ⟨N, 0, none⟩ = some (.int .i64 1) := hN.cell 0 rfl
  have n1 : w.cell? ⟨N, 1, none⟩ = some (.int .i64 (-1)) := hN.cell 1 rfl
  simp only [Nat.zero_mul, Nat.one_mul, Nat.zero_add, Nat.reduceAdd, Nat.reduceMul] at c00 c01 c02 c03 c04 c10 c11 c12 c13 c14
  rcases hc with ⟨rfl, rfl⟩ | ⟨rfl, rfl⟩
  · obtain rfl := z0 rfl
    obtain rfl := z1 rfl
    simp only at c00 c10
    have a0 := fun ob => (Ext.alloc w ob).cell c00
    have a1 := fun ob => (Ext.alloc w ob).cell c01
    have a2 := fun ob => (Ext.alloc w ob).cell c02
    have a3 := fun ob => (Ext.alloc w ob).cell c03
    have a4 := fun ob => (Ext.alloc w ob).cell c04
    have b0 := fun o1 o2 => (ext2 (w := w) o1 o2).cell n0
    have b1 := fun o1 o2 => (ext2 (w := w) o1 o2).cell n1
    have b2 := fun o1 o2 => (ext2 (w := w) o1 o2).cell c10
    have b3 := fun o1 o2 => (ext2 (w := w) o1 o2).cell c11
    have b4 := fun o1 o2 => (ext2 (w := w) o1 o2).cell c12
    have b5 := fun o1 o2 => (ext2 (w := w) o1 o2).cell c13
    have b6 := fun o1 o2 => (ext2 (w := w) o1 o2).cell c14
    go_enter Try.func24, Try.ntmps24
    go_wp2_with fail
    go_loopw [8] (fun t wr => (t = .int .i64 1 ∧ wr = (w.alloc (.cells #[.slice none 0 0, .int .i64 0, .int .i64 0, .int .i64 0, .int .i64 0] 37)).alloc (.cells #[.slice none 0 0, .int .i64 1, .int .i64 0, .int .i64 1, .int .i64 0] 37)) ∨ (t = .int .i64 (-1) ∧ Hd (Row wr w.heap.size 37 [.slice none 0 0, .int .i64 0, .int .i64 0, .int .i64 0, .int .i64 0]) ∧ Hd (Row wr (w.heap.size + 1) 37 [.slice none 0 0, .int .i64 3, .int .i64 0, .int .i64 0, .int .i64 0]) ∧ Hd (Ext w wr))) (fun t _ => (intOf t + 1).toNat)
    case atStart => exact Or.inl ⟨rfl, rfl⟩
    case round =>
      rcases hrel with ⟨rfl, rfl⟩ | ⟨rfl, h1, h2, hX⟩
      · go_wp2_with fail
        go_region
        all_goals
          go_wp2_with fail
          exact ⟨Or.inr ⟨rfl, (two_rows w [.slice none 0 0, .int .i64 0, .int .i64 0, .int .i64 0, .int .i64 0] [.slice none 0 0, .int .i64 3, .int .i64 0, .int .i64 0, .int .i64 0] _).1, (two_rows w [.slice none 0 0, .int .i64 0, .int .i64 0, .int .i64 0, .int .i64 0] [.slice none 0 0, .int .i64 3, .int .i64 0, .int .i64 0, .int .i64 0] _).2, Ext.drew (ext2 _ _)⟩, by decide⟩
      · have x0 := (unhide h2).cell 0 rfl
        have x1 := (unhide h2).cell 1 rfl
        have x2 := (unhide h2).cell 2 rfl
        have x3 := (unhide h2).cell 3 rfl
        have x4 := (unhide h2).cell 4 rfl
        have y0 := (unhide h1).cell 0 rfl
        have y1 := (unhide h1).cell 1 rfl
        have y2 := (unhide h1).cell 2 rfl
        have y3 := (unhide h1).cell 3 rfl
        have y4 := (unhide h1).cell 4 rfl
        have fy := fun j : Nat => k_rowF (unhide h1) j
        go_wp2_with fail
        refine bodyPost_ret (v := rbV ⟨0, ⟨3, 0, 0, 0⟩⟩ (none, 0)) (by simp [results, Try.results24, go_sem, y0, y1, y2, y3, y4]) rfl ⟨(none, 0), rfl, World.ownsRow_nil _ _ _ _, fun _ => rfl, Or.inl ?_⟩
        exact gb_ext (((((((unhide hX).set (by simp) _).set (by simp) _).set (by simp) _).set (by simp) _).set (by simp) _)) _
  · rcases own_repO i1 z1 with ⟨h, _⟩ | ⟨_, q1, o1, e1, hq1, hcs⟩
    · exact absurd h (by decide)
    obtain ⟨iO, hi, hz0, hz1, hz2⟩ := k_infoO
    have HI := hide hi
    have Z0 := hide hz0
    have Z1 := hide hz1
    have Z2 := hide hz2
    have hne := hb.insNe rfl hd0
    obtain ⟨d1a, d1c⟩ := d1
    obtain ⟨d0a, d0c⟩ := d0
    simp only at e1 c00 c10 i0 hne
    subst e1
    have HO : Hd (∀ o1 o2, ((w.alloc o1).alloc o2).drew.ownsRow base 32 12 (.slice d0a 1 d0c) 1 (outs 1)) := fun o1 o2 => k_own_heap i0 (fun q hq => (ext2 o1 o2).block q (i0.lt q hq).2)
    have HNw : Hd (∀ o3 o4 (j : Nat) (u : Value), (outs 1)[j]? = some u → ((w.alloc o3).alloc o4).drew.cell? ((⟨q1, o1, none⟩ : Addr).add j) = some u) := fun o3 o4 j u hu => by
      rw [show (⟨q1, o1, none⟩ : Addr).add j = ⟨q1, o1 + j, none⟩ by simp [Addr.add]]
      exact (ext2 o3 o4).cell (hcs j u hu)
    have Hne := hide hne
    have hgs : g ≠ w.heap.size + 1 := by have := hb.row.2.1; omega
    have hNs : N ≠ w.heap.size + 1 := by have := k_lt hN; omega
    have Hi0 := hide i0
    have HBw := hide hbw
    have HNN := hide hN
    have a0 := fun ob => (Ext.alloc w ob).cell c00
    have a1 := fun ob => (Ext.alloc w ob).cell c01
    have a2 := fun ob => (Ext.alloc w ob).cell c02
    have a3 := fun ob => (Ext.alloc w ob).cell c03
    have a4 := fun ob => (Ext.alloc w ob).cell c04
    have b0 := fun o1 o2 => (ext2 (w := w) o1 o2).cell n0
    have b1 := fun o1 o2 => (ext2 (w := w) o1 o2).cell n1
    have b2 := fun o1 o2 => (ext2 (w := w) o1 o2).cell c10
    have HR6 : Hd (Row ((w.alloc (.cells #[.slice none 0 0, .int .i64 0, .int .i64 0, .int .i64 0, .int .i64 0] 37)).alloc (.cells #[.slice d0a 1 d0c, .int .i64 1, .int .i64 0, .int .i64 1, .int .i64 0] 37)).drew w.heap.size 37 [.slice none 0 0, .int .i64 0, .int .i64 0, .int .i64 0, .int .i64 0]) := (two_rows w [.slice none 0 0, .int .i64 0, .int .i64 0, .int .i64 0, .int .i64 0] [.slice d0a 1 d0c, .int .i64 1, .int .i64 0, .int .i64 1, .int .i64 0] 37).1
    have HR7 : Hd (Row ((w.alloc (.cells #[.slice none 0 0, .int .i64 0, .int .i64 0, .int .i64 0, .int .i64 0] 37)).alloc (.cells #[.slice d0a 1 d0c, .int .i64 1, .int .i64 0, .int .i64 1, .int .i64 0] 37)).drew (w.heap.size + 1) 37 [.slice d0a 1 d0c, .int .i64 1, .int .i64 0, .int .i64 1, .int .i64 0]) := (two_rows w [.slice none 0 0, .int .i64 0, .int .i64 0, .int .i64 0, .int .i64 0] [.slice d0a 1 d0c, .int .i64 1, .int .i64 0, .int .i64 1, .int .i64 0] 37).2
    have HRN : Hd (Row ((w.alloc (.cells #[.slice none 0 0, .int .i64 0, .int .i64 0, .int .i64 0, .int .i64 0] 37)).alloc (.cells #[.slice d0a 1 d0c, .int .i64 1, .int .i64 0, .int .i64 1, .int .i64 0] 37)).drew N 3 (zs [1, -1])) := hN.on (Ext.drew (ext2 _ _))
    have K1 : Hd (((w.alloc (.cells #[.slice none 0 0, .int .i64 0, .int .i64 0, .int .i64 0, .int .i64 0] 37)).alloc (.cells #[.slice d0a 1 d0c, .int .i64 1, .int .i64 0, .int .i64 1, .int .i64 0] 37)).drew.cell? ⟨g, 6, none⟩ = some (.int .i64 3)) := (Ext.drew (ext2 _ _)).cell c11
    have K2 : Hd (((w.alloc (.cells #[.slice none 0 0, .int .i64 0, .int .i64 0, .int .i64 0, .int .i64 0] 37)).alloc (.cells #[.slice d0a 1 d0c, .int .i64 1, .int .i64 0, .int .i64 1, .int .i64 0] 37)).drew.cell? ⟨g, 7, none⟩ = some (.int .i64 0)) := (Ext.drew (ext2 _ _)).cell c12
    have K3 : Hd (((w.alloc (.cells #[.slice none 0 0, .int .i64 0, .int .i64 0, .int .i64 0, .int .i64 0] 37)).alloc (.cells #[.slice d0a 1 d0c, .int .i64 1, .int .i64 0, .int .i64 1, .int .i64 0] 37)).drew.cell? ⟨g, 8, none⟩ = some (.int .i64 0)) := (Ext.drew (ext2 _ _)).cell c13
    have K4 : Hd (((w.alloc (.cells #[.slice none 0 0, .int .i64 0, .int .i64 0, .int .i64 0, .int .i64 0] 37)).alloc (.cells #[.slice d0a 1 d0c, .int .i64 1, .int .i64 0, .int .i64 1, .int .i64 0] 37)).drew.cell? ⟨g, 9, none⟩ = some (.int .i64 0)) := (Ext.drew (ext2 _ _)).cell c14
    clear hi hz0 hz1 hz2 i0 i1 z0 z1 hd0 hd1 hb hN hcs hne hbw hq1 c11 c12 c13 c14
    go_enter Try.func24, Try.ntmps24
    go_wp2_with fail
    go_loopw [8] (fun t wr => (t = .int .i64 1 ∧ wr = (w.alloc (.cells #[.slice none 0 0, .int .i64 0, .int .i64 0, .int .i64 0, .int .i64 0] 37)).alloc (.cells #[.slice d0a 1 d0c, .int .i64 1, .int .i64 0, .int .i64 1, .int .i64 0] 37)) ∨ (t = .int .i64 (-1) ∧ ∃ g' cap', Hd (Row wr w.heap.size 37 [.slice none 0 0, .int .i64 0, .int .i64 0, .int .i64 0, .int .i64 0]) ∧ Hd (Row wr (w.heap.size + 1) 37 [.slice (some ⟨g', 0, none⟩) 2 cap', .int .i64 3, .int .i64 0, .int .i64 0, .int .i64 0]) ∧ Hd (wr.ownsRow base 32 12 (.slice (some ⟨g', 0, none⟩) 2 cap') 2 (outs 2)) ∧ Hd (w.grownBy wr (Value.slice d0a 1 d0c).ownBlock))) (fun t _ => (intOf t + 1).toNat)
    case atStart => exact Or.inl ⟨rfl, rfl⟩
    case round =>
      rcases hrel with ⟨rfl, rfl⟩ | ⟨rfl, g', cap', h1, h2, hO, hG⟩
      · go_wp2_with fail
        refine k_nrm ?_
        go_region_law (refine step_kapp rfl (.tmp 29) (.tmp 34) 33 rfl base 32 iO (.agg #[.int .i64 0, .int .i64 0, .int .i64 0, .int .i64 0, .int .i64 0, .int .i64 0, .int .i64 0, .int .i64 0, .complex .f64 0 0, .string ⟨#[]⟩, .slice none 0 0, .slice none 0 0]) 12 144 Try.underlying33 (unhide HI) (unhide Z0) (unhide Z1) (unhide Z2) rfl (by decide) d0a 1 d0c (outs 1) (by simp [Act.eval, Act.put]) (unhide HO _ _) ⟨q1, o1, none⟩ 1 d1c (outs 1) (by simp [Act.eval, Act.put]) (by decide) rfl (unhide HNw _ _) (one_out 1) (by unfold maxLen; omega) (by omega) (Nat.le_trans (unhide HBw) (ext2 _ _).size) ?_; intro g' cap' w3 ho hgr hw; have R6 := hide (row_own (unhide HR6) (unhide HO _ _) hgr (by decide)); have R7 := hide (row_own (unhide HR7) (unhide HO _ _) hgr (by decide)); have v0 := (unhide R7).cell 0 rfl; have v1 := (unhide R7).cell 1 rfl; have v2 := (unhide R7).cell 2 rfl; have v3 := (unhide R7).cell 3 rfl; have v4 := (unhide R7).cell 4 rfl; have v5 := (fun j : Nat => k_rowF (unhide R7) j); have G3 := hide hgr; have O3 := hide ho; have u1 := hgr.cell (unhide K1) (fun e => unhide Hne e.symm); have u2 := hgr.cell (unhide K2) (fun e => unhide Hne e.symm); have u3 := hgr.cell (unhide K3) (fun e => unhide Hne e.symm); have u4 := hgr.cell (unhide K4) (fun e => unhide Hne e.symm); have u5 : w3.cell? ⟨N, 1, none⟩ = some (.int .i64 (-1)) := (row_own (unhide HRN) (unhide HO _ _) hgr (by decide)).cell 1 rfl; clear ho hgr hw)
        all_goals
          simp only [KNrm]
          go_wp2_with fail
          refine ⟨Or.inr ⟨rfl, g', cap', ?_, ?_, ?_, ?_⟩, by decide⟩
          · exact (((((unhide R6).other (by omega) _ _).other (by omega) _ _).other (by omega) _ _).other (by omega) _ _).other (by omega) _ _
          · exact (((((unhide R7).set 0 (.slice (some ⟨g', 0, none⟩) 2 cap')).set 1 (.int .i64 3)).set 2 (.int .i64 0)).set 3 (.int .i64 0)).set 4 (.int .i64 0)
          · have r1 := (unhide R7).set 0 (.slice (some ⟨g', 0, none⟩) 2 cap')
            have r2 := r1.set 1 (.int .i64 3)
            have r3 := r2.set 2 (.int .i64 0)
            have r4 := r3.set 3 (.int .i64 0)
            have o := own_oth (i := 4) (own_oth (own_oth (own_oth (own_oth (unhide O3) (unhide R7) (by decide) _) r1 (by decide) _) r2 (by decide) _) r3 (by decide) _) r4 (by decide) (.int .i64 0)
            rw [← outs_add] at o
            exact o
          · have e : w.grownBy w3 (Value.slice d0a 1 d0c).ownBlock := gb_trans (gb_ext (Ext.drew (ext2 _ _)) _) (unhide G3)
            exact gb_setNew (gb_setNew (gb_setNew (gb_setNew (gb_setNew e (by simp) _) (by simp) _) (by simp) _) (by simp) _) (by simp) _
      · have x0 := (unhide h2).cell 0 rfl
        have x1 := (unhide h2).cell 1 rfl
        have x2 := (unhide h2).cell 2 rfl
        have x3 := (unhide h2).cell 3 rfl
        have x4 := (unhide h2).cell 4 rfl
        have y0 := (unhide h1).cell 0 rfl
        have y1 := (unhide h1).cell 1 rfl
        have y2 := (unhide h1).cell 2 rfl
        have y3 := (unhide h1).cell 3 rfl
        have y4 := (unhide h1).cell 4 rfl
        have fy := fun j : Nat => k_rowF (unhide h1) j
        go_wp2_with fail
        refine bodyPost_ret (v := rbV ⟨2, ⟨3, 0, 0, 0⟩⟩ (some ⟨g', 0, none⟩, cap')) (by simp [results, Try.results24, go_sem, y0, y1, y2, y3, y4]) rfl ⟨(some ⟨g', 0, none⟩, cap'), rfl, ?_, fun h => absurd h (by decide), ?_⟩
        · have r0 := unhide h1
          have r1 := r0.set 0 (.slice (some ⟨g', 0, none⟩) 2 cap')
          have r2 := r1.set 1 (.int .i64 3)
          have r3 := r2.set 2 (.int .i64 0)
          have r4 := r3.set 3 (.int .i64 0)
          exact own_oth (own_oth (own_oth (own_oth (own_oth (unhide hO) r0 (by decide) _) r1 (by decide) _) r2 (by decide) _) r3 (by decide) _) r4 (by decide) _
        · have e := gb_setNew (gb_setNew (gb_setNew (gb_setNew (gb_setNew (unhide hG) (p := ⟨w.heap.size, 0, none⟩) (by simp) (.slice (some ⟨g', 0, none⟩) 2 cap')) (p := ⟨w.heap.size, 1, none⟩) (by simp) (.int .i64 3)) (p := ⟨w.heap.size, 2, none⟩) (by simp) (.int .i64 0)) (p := ⟨w.heap.size, 3, none⟩) (by simp) (.int .i64 0)) (p := ⟨w.heap.size, 4, none⟩) (by simp) (.int .i64 0)
          obtain ⟨_, ⟨_, h0⟩ | ⟨q, cp, cur, ev, hqb, hq, _⟩⟩ := unhide Hi0
          · omega
          · rw [ev] at e
            exact Or.inr ⟨q, cur, hq, hqb, e⟩

end Go.Proofs.Ytdnhekgbfhlhoaa
