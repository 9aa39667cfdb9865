/- Two blocks of which the first jumps to the second, laid together: merged. -/
import Derived.Test.YtdnhekgbfhlhoaaThS
set_option linter.unusedSimpArgs false
set_option linter.unusedVariables false
set_option maxRecDepth 10000
namespace Go.Proofs.Ytdnhekgbfhlhoaa
open Go.RowKit

/-- Of what stood at most a row of instructions has turned. -/
def GrE (base : Nat) (w w' : World) : Prop := w.grownBy w' none ∨ ∃ q cs, w.heap[q]? = some (.cells cs 32 (0, 0)) ∧ base ≤ q ∧ w.grownBy w' (some q)
theorem GrE.row {base : Nat} {w w' : World} (h : GrE base w w') {q : Nat} {t : TypeId} {cs : List Value} (hr : Row w q t cs) (hne : t ≠ 32) : Row w' q t cs := by
  rcases h with h | ⟨p, c2, hp, _, h⟩
  · exact (h.block q (k_lt hr) (by simp)).trans hr
  · refine (h.block q (k_lt hr) (fun e => ?_)).trans hr
    injection e with e
    subst e
    unfold Row at hr
    rw [hp] at hr
    injection hr with hr
    injection hr with _ e2 _
    exact hne e2.symm
theorem GrE.size {base : Nat} {w w' : World} (h : GrE base w w') : w.heap.size ≤ w'.heap.size := by
  rcases h with h | ⟨_, _, _, _, h⟩ <;> exact h.size
theorem GrE.ext {base : Nat} {w w' w2 : World} (h : GrE base w w') (x : Ext w' w2) : GrE base w w2 := by
  rcases h with h | ⟨p, c2, hp, hb, h⟩
  · exact Or.inl (gb_trans h (gb_ext x _))
  · exact Or.inr ⟨p, c2, hp, hb, gb_trans h (gb_ext x _)⟩
theorem GrE.pre {base : Nat} {w w' w2 : World} (x : Ext w w') (h : GrE base w' w2) : GrE base w w2 := by
  rcases h with h | ⟨p, c2, hp, hb, h⟩
  · exact Or.inl (gb_trans (gb_ext x _) h)
  · by_cases hpw : p < w.heap.size
    · exact Or.inr ⟨p, c2, (x.block p hpw).symm.trans hp, hb, gb_trans (gb_ext x _) h⟩
    · exact Or.inl (gb_new (gb_ext x _) h (by omega))
/-- A row of one's own, and new, turns. -/
theorem GrE.new {base g : Nat} {w w' w2 : World} (h : GrE base w w') (x : w'.grownBy w2 (some g)) (hg : w.heap.size ≤ g) : GrE base w w2 := by
  rcases h with h | ⟨p, c2, hp, hb, h⟩
  · exact Or.inl (gb_new h x hg)
  · exact Or.inr ⟨p, c2, hp, hb, gb_new h x hg⟩

set_option maxHeartbeats 4000000 in
theorem merged_w (nm : ByteArray) (ps rg : Int) (base g cap c0 c1 : Nat) (ads : List (Option Addr × Nat)) (w : World) (hc : (c0 = 0 ∧ c1 = 0) ∨ (c0 = 1 ∧ c1 = 1)) (hb : BlS w base g cap (tw c0 c1) ads) (hbw : base ≤ w.heap.size) :
    Calls Try.prog 11 #[rfV nm ps rg (some ⟨g, 0, none⟩) 2 cap] w fun e w' => ∃ g2 cap2 d, e = .returned (.slice (some ⟨g2, 0, none⟩) 1 cap2) ∧ BlS w' base g2 cap2 [⟨c0 + c1, ⟨3, 0, 0, 0⟩⟩] [d] ∧ GrE base w w' := by
  have hrep : RepB w (In w) (some ⟨g, 0, none⟩) (tw c0 c1) ads := hb.rep.to fun q hq => ⟨hq.2, rfl⟩
  have HF := hide (fun (W : World) (x : Ext w W) => followers_w nm ps rg g cap c0 c1 ads W (hrep.ext x))
  have HBe := hide behind_w
  have HRow := hide (fun (W : World) (x : Ext w W) (N : Nat) (hN : Row W N 3 (zs [1, -1])) => row_w base g cap c0 c1 N ads W hc (hb.on x) (Nat.le_trans hbw x.size) hN)
  have hmk : ∀ W : World, (Instr.makeSlice 30 (.int .i64 2) (.int .i64 2)).run Try.prog W = .ok (.slice (some ⟨W.heap.size, 0, none⟩) 2 2) (W.alloc (.cells (zs (List.replicate 2 0)).toArray 3)) := fun W => make_ints 2 (by decide) W
  obtain ⟨cz, hcz⟩ : ∃ cz, cz = (zs (List.replicate 2 0)).toArray := ⟨_, rfl⟩
  rw [← hcz] at hmk
  have HN0 : Hd (∀ W : World, Row (W.alloc (.cells cz 3)) W.heap.size 3 (zs [0, 0])) := fun W => by rw [hcz]; exact Row.new W (zs [0, 0]) 3
  obtain ⟨iK, hi, hz0, hz1, hz2⟩ := k_infoK
  have HI := hide hi
  have Z0 := hide hz0
  have Z1 := hide hz1
  have Z2 := hide hz2
  have HBw := hide hbw
  clear hi hz0 hz1 hz2 hcz hb hrep hbw hc
  go_enter Try.func11, Try.ntmps11
  go_wp2_with (first
    | (go_at_call 22; refine Calls.mono (unhide HF _ (Ext.alloc _ _)) ?_; rintro e w1 ⟨N, rfl, _, hN, x1⟩; have X1 := hide ((Ext.alloc w _).trans x1); have HN1 := hide hN; have q3 := x1.cell (cell_box w _ 24 3 rfl); clear x1 hN)
    | (go_at_call 23; refine Calls.mono (unhide HBe _ _ (unhide HN1)) ?_; rintro e w2 ⟨S, rfl, _, hS, x2⟩; have X2 := hide ((unhide X1).trans x2); have HN2 := hide ((unhide HN1).on x2); have HS := hide hS; have q3 := x2.cell q3; have q3a := (fun ob => (Ext.alloc w2 ob).cell q3); clear x2 hS))
  obtain ⟨Q, hQ⟩ : ∃ Q, Q = w2.heap.size := ⟨_, rfl⟩
  have hR0 : Hd (Row (w2.alloc (.cells cz 3)) Q 3 (zs [0, 0])) := by rw [hQ]; exact unhide HN0 w2
  have HS3 := hide ((unhide HS).on (Ext.alloc w2 (.cells cz 3)))
  have HN3 := hide ((unhide HN2).on (Ext.alloc w2 (.cells cz 3)))
  have X3 := hide ((unhide X2).trans (Ext.alloc w2 (.cells cz 3)))
  have q3 := (Ext.alloc w2 (.cells cz 3)).cell q3
  rw [← hQ]
  have HQe := hide hQ
  obtain ⟨w3, hw3⟩ : ∃ w3, w3 = w2.alloc (.cells cz 3) := ⟨_, rfl⟩
  rw [← hw3] at hR0 HS3 HN3 X3 q3
  rw [← hw3]
  clear hmk hQ q3a X1 X2 HN1 HN2 HS hw3
  go_loopw [5, 19] (fun t5 t wr => (t5 = .slice none 0 0 ∧ t = .int .i64 0 ∧ wr = w3) ∨ (∃ (j : Int) (g2 cap2 : Nat) (d : Option Addr × Nat), t5 = .slice (some ⟨g2, 0, none⟩) 1 cap2 ∧ t = .int .i64 j ∧ (j = 1 ∨ j = 2) ∧ w.heap.size ≤ g2 ∧ Hd (BlS wr base g2 cap2 [⟨c0 + c1, ⟨3, 0, 0, 0⟩⟩] [d]) ∧ Hd (Row wr S 4 (bsV [false, true])) ∧ Hd (Row wr Q 3 (zs [0, 0])) ∧ Hd (GrE base w wr))) (fun _ t _ => 2 - (intOf t).toNat)
  case atStart => exact Or.inl ⟨rfl, rfl, rfl⟩
  case round =>
    rcases hrel with ⟨rfl, rfl, rfl⟩ | ⟨j, g2, cap2, d, rfl, rfl, hj, hg2, hB, hS, hQ, hG⟩
    · have s0 : wr.cell? ⟨S, 0, none⟩ = some (.bool false) := (unhide HS3).cell 0 rfl
      have y0 : wr.cell? ⟨Q, 0, none⟩ = some (.int .i64 0) := (unhide hR0).cell 0 rfl
      have fQ := fun i : Nat => k_rowF (unhide hR0) i
      have hset : wr.setCell ⟨Q, 0, none⟩ (.int .i64 0) = wr := own_same (unhide hR0) rfl
      have HC := hide (unhide HRow wr (unhide X3) N (unhide HN3))
      go_wp2_with (first
        | (go_at_call 24; refine Calls.mono (unhide HC) ?_; rintro e w4 ⟨d, rfl, ho4, hz4, hg4⟩; have O4 := hide ho4; have ZZ4 := hide hz4; have G4 : Hd (GrE base wr w4) := hg4; have B4 := hide (Nat.le_trans (Nat.le_trans (unhide HBw) (unhide X3).size) (unhide G4).size); clear ho4 hz4 hg4)
        | (at_builtin; refine kapp_list rfl (.tmp 30) (.tmp 36) 22 rfl base 37 iK (.agg #[.slice none 0 0, .int .i64 0, .int .i64 0, .int .i64 0, .int .i64 0]) 5 56 Try.underlying22 (unhide HI) (unhide Z0) (unhide Z1) (unhide Z2) rfl (by decide) none 0 0 [] rfl (World.ownsRow_nil _ _ _ _) ⟨w4.heap.size, 0, none⟩ 1 1 (rbC ⟨c0 + c1, ⟨3, 0, 0, 0⟩⟩ d) rfl (by decide) rfl (k_new _ _ rfl _ _) (one_rbC _ _) ?c1 ?c2 ?c3 ?_))
      case c1 => unfold maxLen; omega
      case c2 => omega
      case c3 => rw [sz1]; exact Nat.le_succ_of_le (unhide B4)
      intro g' cap' w5 ho hgr hw
      have hg5 : w.heap.size ≤ g' := by
        have h3 := (unhide X3).size
        have h4 := (unhide G4).size
        rcases hw with hw | hw
        · cases hw
        · first | omega | (rw [sz1] at hw; omega)
      have x5 : Ext w4 w5 := (Ext.alloc _ _).trans (ext_gb hgr)
      have hA := (BlA.nil w4 base).push ⟨c0 + c1, ⟨3, 0, 0, 0⟩⟩ d (unhide ZZ4) (unhide O4) hgr (by simpa [bC] using ho)
      obtain ⟨g3, e3, hB5⟩ := hA.full (by simp)
      injection e3 with e3
      injection e3 with e3 _
      subst e3
      have HB5 : Hd (BlS w5 base g' cap' [⟨c0 + c1, ⟨3, 0, 0, 0⟩⟩] [d]) := hB5
      have HS5 := hide (((unhide G4).row (unhide HS3) (by decide)).on x5)
      have HQ5 := hide (((unhide G4).row (unhide hR0) (by decide)).on x5)
      have HG5 : Hd (GrE base w w5) := ((unhide G4).ext x5).pre (unhide X3)
      clear ho hgr hw hA hB5 x5 hset
      go_wp2_with fail
      go_roundw
      case rel => exact Or.inr ⟨1, g', cap', d, rfl, rfl, Or.inl rfl, hg5, HB5, HS5, HQ5, HG5⟩
      case measure => decide
    · rcases hj with rfl | rfl
      · have s1 : wr.cell? ⟨S, 1, none⟩ = some (.bool true) := (unhide hS).cell 1 rfl
        go_wp2_with fail
        first
          | exact ⟨Or.inr ⟨2, g2, cap2, d, rfl, rfl, Or.inr rfl, hg2, hB, hS, hQ, hG⟩, by decide⟩
          | (go_roundw
             case rel => exact Or.inr ⟨2, g2, cap2, d, rfl, rfl, Or.inr rfl, hg2, hB, hS, hQ, hG⟩
             case measure => decide)
      · have hQg : Q ≠ g2 := by
          rintro rfl
          obtain ⟨_, _, _, _, cur, hc⟩ := (unhide hB).row
          have h2 := unhide hQ
          unfold Row at h2
          rw [hc] at h2
          injection h2 with h2
          injection h2 with _ h2 _
          exact absurd h2 (by decide)
        have HM := hide (move_w base g2 cap2 [⟨c0 + c1, ⟨3, 0, 0, 0⟩⟩] [d] (some ⟨Q, 0, none⟩) 2 2 [0, 0] wr (by simp) rfl (by decide) (unhide hB) (Or.inr ⟨Q, 0, rfl, ⟨k_lt (unhide hQ), hQg⟩, fun j x hx => by rw [Nat.zero_add]; exact (unhide hQ).cell j (zs_at hx)⟩))
        have em : ([⟨c0 + c1, ⟨3, 0, 0, 0⟩⟩] : List RB).map (fun b => (⟨b.c, ledP (mvP [0, 0]) b.t⟩ : RB)) = [⟨c0 + c1, ⟨3, 0, 0, 0⟩⟩] := by simp [ledP]
        rw [em] at HM
        have HG2 := hide hg2
        clear em hQg
        go_wp2_with (go_at_call 25; refine Calls.mono (unhide HM) ?_; rintro e w6 ⟨rfl, b6, g6⟩; have B6 := hide b6; have G6 := hide ((unhide hG).new g6 (unhide HG2)); clear b6 g6)
        go_ret
        exact ⟨g2, cap2, d, rfl, unhide B6, unhide G6⟩

end Go.Proofs.Ytdnhekgbfhlhoaa
