/- Run. -/
import Derived.Test.YtdnhekgbfhlhoaaThY
set_option linter.unusedSimpArgs false
set_option linter.unusedVariables false
set_option maxRecDepth 10000
namespace Go.Proofs.Ytdnhekgbfhlhoaa
open Go.RowKit

theorem GrE.toExt {base : Nat} {w w' w2 : World} (x : Ext w w') (h : GrE base w' w2) (hb : w.heap.size ≤ base) : Ext w w2 := by
  rcases h with h | ⟨p, c2, hp, hpb, h⟩
  · exact x.trans (ext_gb h)
  · exact ext_gb (gb_new (gb_ext x none) h (by omega))
/-- Behind Run. -/
def RunE (w : World) (nm : ByteArray) (ps rg : Int) (l : List RB) (e : Ending) (w' : World) : Prop := ∃ g cap ads, e = .returned (rfV nm ps rg (some ⟨g, 0, none⟩) l.length cap) ∧ RepB w' (In w') (some ⟨g, 0, none⟩) l ads ∧ Ext w w'

set_option maxHeartbeats 4000000 in
theorem run_w (nm : ByteArray) (ps rg : Int) (a : Option Addr) (c : Nat) (l l1 : List RB) (ads : List (Option Addr × Nat)) (F : Nat → Nat) (rc : List Bool) (K : Nat) (Fw : GW) (c0 c1 : Nat) (w : World) (hn : 0 < l.length) (hn2 : l.length ≤ 1000) (hc : ∀ (i : Nat) (b : RB), l[i]? = some b → b.c ≤ 1000) (hr : RepB w (In w) a l ads)
    (hF : Fwd l F) (hl1 : l.map (tbP (fz l.length F)) = l1) (hF1 : Fwd l1 F) (hfx : l1.map (tbP (fz l.length F)) = l1) (hany : anyP (fz l.length F) l1 = false)
    (hK : K ≤ 7000000) (hFw : gWalk (l1.map (fun b => waysP b.t)) K = some Fw) (hrc : Fw.shut = rc) (h0 : 0 < (keepL l1 rc l1.length).length) (htw : dropP l1 rc = tw c0 c1) (hcc : (c0 = 0 ∧ c1 = 0) ∨ (c0 = 1 ∧ c1 = 1)) :
    Calls Try.prog 5 #[rfV nm ps rg a l.length c] w (RunE w nm ps rg [⟨c0 + c1, ⟨3, 0, 0, 0⟩⟩]) := by
  have hll : l1.length = l.length := by rw [← hl1]; simp
  have hc1 : ∀ (i : Nat) (b : RB), l1[i]? = some b → b.c ≤ 1000 := by
    intro i b hb
    rw [← hl1, List.getElem?_map] at hb
    cases hx : l[i]? with
    | none => rw [hx] at hb; cases hb
    | some b0 =>
      rw [hx] at hb
      injection hb with hb
      rw [← hb]
      exact hc i b0 hx
  have HOw := hide (fun (W : World) (x : Ext w W) => ownF_w nm ps rg a c l ads W hn hn2 hc (hr.ext x))
  have HT0 := hide (fun (W : World) (base g cap : Nat) (ads : List (Option Addr × Nat)) (hb : BlS W base g cap l ads) => turnEnds_w base g cap l ads F W (by omega) hF hb)
  have HT1 := hide (fun (W : World) (base g cap : Nat) (ads : List (Option Addr × Nat)) (hb : BlS W base g cap l1 ads) => turnEnds_w base g cap l1 ads F W (by omega) hF1 hb)
  have HUn := hide (fun (W : World) (g cap : Nat) (ads : List (Option Addr × Nat)) (hb : RepB W (In W) (some ⟨g, 0, none⟩) l1 ads) => unreach_w nm ps rg (some ⟨g, 0, none⟩) cap l1 ads rc K Fw W (by omega) (by omega) hc1 hb hK hFw hrc h0)
  have HMg := hide (fun (W : World) (base g cap : Nat) (ads : List (Option Addr × Nat)) (hb : BlS W base g cap (tw c0 c1) ads) (h : base ≤ W.heap.size) => merged_w nm ps rg base g cap c0 c1 ads W hcc hb h)
  rw [hll] at HT1 HUn
  rw [htw] at HUn
  rw [hl1] at HT0
  rw [hfx, hany] at HT1
  unfold UnE at HUn
  obtain ⟨n, hln⟩ : ∃ n, n = l.length := ⟨_, rfl⟩
  have HN := hide hln
  have HLL := hide hll
  rw [← hln] at hn hn2 HOw HT0 HT1 HUn ⊢
  generalize anyP (fz n F) l = A0 at *
  clear hr hc hc1 hF hF1 hl1 hfx hany hFw hrc h0 htw hcc hll hln
  unfold RunE
  go_enter Try.func5, Try.ntmps5
  go_wp2_with (go_at_call 8; refine Calls.mono (unhide HOw _ (ext2 _ _)) ?_; rintro e w1 ⟨g, cap, ad2, rfl, b1, x1⟩; have B1 := hide b1; have X1 := hide x1; clear b1 x1)
  obtain ⟨T, hT⟩ : ∃ T, T = w1.heap.size := ⟨_, rfl⟩
  have hR2 : Row w1 (w.heap.size + 1) 24 [.string ⟨#[]⟩, .int .i64 0, .int .i64 0, .slice none 0 0] := by
    have := (unhide X1).row (Row.new (w.alloc (.cells #[.string nm, .int .i64 ps, .int .i64 rg, .slice a n c] 24)) [.string ⟨#[]⟩, .int .i64 0, .int .i64 0, .slice none 0 0] 24)
    rw [sz1] at this
    exact this
  have hgT : g ≠ T := by have := (unhide B1).row.2.1; omega
  have hgw : w.heap.size ≤ g := by have := (unhide B1).row.1; rw [sz1, sz1] at this; omega
  have hg1 : g ≠ w.heap.size + 1 := by have := (unhide B1).row.1; rw [sz1, sz1] at this; omega
  have hTw : w.heap.size + 1 < T := by have := (unhide X1).size; rw [sz1, sz1] at this; omega
  have Hgg := hide (And.intro hgT (And.intro hgw (And.intro hg1 hTw)))
  have S0 : Hd (BlS (w1.alloc (.cells #[.string nm, .int .i64 ps, .int .i64 rg, .slice (some ⟨g, 0, none⟩) n cap] 24)) w.heap.size g cap l ad2) := ((unhide B1).mono (by rw [sz1, sz1]; omega)).on (Ext.alloc _ _)
  have R0 : Hd (Row (w1.alloc (.cells #[.string nm, .int .i64 ps, .int .i64 rg, .slice (some ⟨g, 0, none⟩) n cap] 24)) T 24 [.string nm, .int .i64 ps, .int .i64 rg, .slice (some ⟨g, 0, none⟩) n cap]) := by rw [hT]; exact Row.new _ _ _
  have D0 : Hd (Row (w1.alloc (.cells #[.string nm, .int .i64 ps, .int .i64 rg, .slice (some ⟨g, 0, none⟩) n cap] 24)) (w.heap.size + 1) 24 [.string ⟨#[]⟩, .int .i64 0, .int .i64 0, .slice none 0 0]) := hR2.on (Ext.alloc _ _)
  have E0 : Hd (Ext w (w1.alloc (.cells #[.string nm, .int .i64 ps, .int .i64 rg, .slice (some ⟨g, 0, none⟩) n cap] 24))) := ((ext2 _ _).trans (unhide X1)).trans (Ext.alloc _ _)
  rw [← hT]
  clear hR2 B1 X1 hgT hgw hg1 hTw hT HOw
  go_loopw [8] (fun t wr => (t = undef ∧ Hd (BlS wr w.heap.size g cap l ad2) ∨ t = .bool true ∧ Hd (BlS wr w.heap.size g cap l1 ad2)) ∧ Hd (Row wr T 24 [.string nm, .int .i64 ps, .int .i64 rg, .slice (some ⟨g, 0, none⟩) n cap]) ∧ Hd (Row wr (w.heap.size + 1) 24 [.string ⟨#[]⟩, .int .i64 0, .int .i64 0, .slice none 0 0]) ∧ Hd (Ext w wr)) (fun t _ => match t with | .bool _ => 0 | _ => 1)
  case atStart => exact ⟨Or.inl ⟨rfl, S0⟩, R0, D0, E0⟩
  case round =>
    clear S0 R0 D0 E0
    obtain ⟨hj, hR, hD, hX⟩ := hrel
    have t3 := (unhide hR).cell 3 rfl
    have hDT : w.heap.size + 1 ≠ T := by have := (unhide Hgg).2.2.2; omega
    have hTD : T ≠ w.heap.size + 1 := fun e => hDT e.symm
    rcases hj with ⟨rfl, hB⟩ | ⟨rfl, hB⟩
    · have HC := hide (unhide HT0 wr w.heap.size g cap ad2 (unhide hB))
      cases A0
      · go_wp2_with (first
          | (go_at_call 9; refine Calls.mono (unhide HC) ?_; rintro e w2 ⟨rfl, b2, g2⟩; have B2 := hide b2; have R2 := hide (gb_row g2 (unhide hR) (fun e => (unhide Hgg).1 e.symm)); have D2 := hide (gb_row g2 (unhide hD) (fun e => (unhide Hgg).2.2.1 e.symm)); have X2 := hide (ext_gb (gb_new (gb_ext (unhide hX) none) g2 (unhide Hgg).2.1)); have t0 := k_rowC (unhide R2) 0 rfl; have t1 := k_rowC (unhide R2) 1 rfl; have t2 := k_rowC (unhide R2) 2 rfl; have t3 := k_rowC (unhide R2) 3 rfl; clear b2 g2)
          | (go_at_call 10; refine Calls.mono (unhide HUn w2 g cap ad2 ((unhide B2).rep.to fun q hq => ⟨hq.2, rfl⟩)) ?_; rintro e w3 ⟨g3, cap3, ad3, rfl, b3, x3⟩; have R3 := hide (x3.row (unhide R2)); have D3 := hide (x3.row (unhide D2)); have t0 := k_rowC (unhide R3) 0 rfl; have t1 := k_rowC (unhide R3) 1 rfl; have t2 := k_rowC (unhide R3) 2 rfl; have t3 := k_rowC (unhide R3) 3 rfl; have ft := (fun j : Nat => k_rowF (unhide R3) j); have e0 := own_same (unhide R3) (i := 0) (v := .string nm) rfl; have e1 := own_same (unhide R3) (i := 1) (v := .int .i64 ps) rfl; have e2 := own_same (unhide R3) (i := 2) (v := .int .i64 rg) rfl; have X3 := hide x3; have B3 := hide b3; clear x3 b3)
          | (go_at_call 11; refine Calls.mono (unhide HMg (w3.setCell ⟨T, 3, none⟩ (.slice (some ⟨g3, 0, none⟩) 2 cap3)) w2.heap.size g3 cap3 ad3 ((unhide B3).grown (k_grown_set _ _ _ _) (unhide R3) (by decide) (by decide)) (by simp only [World.setCell, Array.size_modify]; exact (unhide X3).size)) ?_; rintro e w5 ⟨g5, cap5, d5, rfl, b5, gr5⟩; have GR5 : Hd (GrE w2.heap.size (w3.setCell ⟨T, 3, none⟩ (.slice (some ⟨g3, 0, none⟩) 2 cap3)) w5) := gr5; have R5 : Hd (Row w5 T 24 [.string nm, .int .i64 ps, .int .i64 rg, .slice (some ⟨g3, 0, none⟩) 2 cap3]) := (unhide GR5).row (by have := k_row_set (unhide R3) 3 (.slice (some ⟨g3, 0, none⟩) 2 cap3); simpa using this) (by decide); have D5 : Hd (Row w5 (w.heap.size + 1) 24 [.string ⟨#[]⟩, .int .i64 0, .int .i64 0, .slice none 0 0]) := (unhide GR5).row (k_row_other (unhide D3) hDT _ _) (by decide); have t0 : w5.cell? ⟨T, 0, none⟩ = some (.string nm) := (unhide R5).cell 0 rfl; have t1 : w5.cell? ⟨T, 1, none⟩ = some (.int .i64 ps) := (unhide R5).cell 1 rfl; have t2 : w5.cell? ⟨T, 2, none⟩ = some (.int .i64 rg) := (unhide R5).cell 2 rfl; have t3 : w5.cell? ⟨T, 3, none⟩ = some (.slice (some ⟨g3, 0, none⟩) 2 cap3) := (unhide R5).cell 3 rfl; have ft := (fun j : Nat => k_rowF (unhide R5) j); have d0 : w5.cell? ⟨w.heap.size + 1, 0, none⟩ = some (.string ⟨#[]⟩) := (unhide D5).cell 0 rfl; have d1 : w5.cell? ⟨w.heap.size + 1, 1, none⟩ = some (.int .i64 0) := (unhide D5).cell 1 rfl; have d2 : w5.cell? ⟨w.heap.size + 1, 2, none⟩ = some (.int .i64 0) := (unhide D5).cell 2 rfl; have d3 : w5.cell? ⟨w.heap.size + 1, 3, none⟩ = some (.slice none 0 0) := (unhide D5).cell 3 rfl; have fd := (fun j : Nat => k_rowF (unhide D5) j); have B5 := hide b5; clear b5 gr5))
        refine bodyPost_ret (v := rfV nm ps rg (some ⟨g5, 0, none⟩) 1 cap5) (by simp [results, Try.results5, go_sem, d0, d1, d2, d3, hDT, hTD]) rfl ⟨g5, cap5, [d5], rfl, ?_, ?_⟩
        · have b6 := (unhide B5).grown (k_grown_set w5 T 3 (.slice (some ⟨g5, 0, none⟩) 1 cap5)) (unhide R5) (by decide) (by decide)
          have r6 : Row (w5.setCell ⟨T, 3, none⟩ (.slice (some ⟨g5, 0, none⟩) 1 cap5)) (w.heap.size + 1) 24 [.string ⟨#[]⟩, .int .i64 0, .int .i64 0, .slice none 0 0] := k_row_other (unhide D5) hDT _ _
          have b7 := b6.grown (gb_trans (gb_trans (gb_trans (k_grown_set _ (w.heap.size + 1) 0 (.string nm)) (k_grown_set _ _ 1 (.int .i64 ps))) (k_grown_set _ _ 2 (.int .i64 rg))) (k_grown_set _ _ 3 (.slice (some ⟨g5, 0, none⟩) 1 cap5))) r6 (by decide) (by decide)
          exact b7.rep.to fun q hq => ⟨hq.2, rfl⟩
        · have x3 : Ext w w3 := (unhide X2).trans (unhide X3)
          have x4 : Ext w (w3.setCell ⟨T, 3, none⟩ (.slice (some ⟨g3, 0, none⟩) 2 cap3)) := x3.set (by have := (unhide Hgg).2.2.2; show w.heap.size ≤ T; omega) _
          have x5 := (unhide GR5).toExt x4 (unhide X2).size
          have hT1 : w.heap.size ≤ T := by have := (unhide Hgg).2.2.2; omega
          exact ((((x5.set (p := ⟨T, 3, none⟩) hT1 _).set (by simp) _).set (by simp) _).set (by simp) _).set (by simp) _
      · go_wp2_with (skip; (go_at_call 9; refine Calls.mono (unhide HC) ?_; rintro e w2 ⟨rfl, b2, g2⟩; have B2 := hide b2; have R2 := hide (gb_row g2 (unhide hR) (fun e => (unhide Hgg).1 e.symm)); have D2 := hide (gb_row g2 (unhide hD) (fun e => (unhide Hgg).2.2.1 e.symm)); have X2 := hide (ext_gb (gb_new (gb_ext (unhide hX) none) g2 (unhide Hgg).2.1)); have t0 := k_rowC (unhide R2) 0 rfl; have t1 := k_rowC (unhide R2) 1 rfl; have t2 := k_rowC (unhide R2) 2 rfl; have t3 := k_rowC (unhide R2) 3 rfl; clear b2 g2))
        exact ⟨⟨Or.inr ⟨rfl, B2⟩, R2, D2, X2⟩, by first | decide | exact Nat.zero_lt_one | simp [undef]⟩
    · have HC := hide (unhide HT1 wr w.heap.size g cap ad2 (unhide hB))
      · go_wp2_with (first
          | (go_at_call 9; refine Calls.mono (unhide HC) ?_; rintro e w2 ⟨rfl, b2, g2⟩; have B2 := hide b2; have R2 := hide (gb_row g2 (unhide hR) (fun e => (unhide Hgg).1 e.symm)); have D2 := hide (gb_row g2 (unhide hD) (fun e => (unhide Hgg).2.2.1 e.symm)); have X2 := hide (ext_gb (gb_new (gb_ext (unhide hX) none) g2 (unhide Hgg).2.1)); have t0 := k_rowC (unhide R2) 0 rfl; have t1 := k_rowC (unhide R2) 1 rfl; have t2 := k_rowC (unhide R2) 2 rfl; have t3 := k_rowC (unhide R2) 3 rfl; clear b2 g2)
          | (go_at_call 10; refine Calls.mono (unhide HUn w2 g cap ad2 ((unhide B2).rep.to fun q hq => ⟨hq.2, rfl⟩)) ?_; rintro e w3 ⟨g3, cap3, ad3, rfl, b3, x3⟩; have R3 := hide (x3.row (unhide R2)); have D3 := hide (x3.row (unhide D2)); have t0 := k_rowC (unhide R3) 0 rfl; have t1 := k_rowC (unhide R3) 1 rfl; have t2 := k_rowC (unhide R3) 2 rfl; have t3 := k_rowC (unhide R3) 3 rfl; have ft := (fun j : Nat => k_rowF (unhide R3) j); have e0 := own_same (unhide R3) (i := 0) (v := .string nm) rfl; have e1 := own_same (unhide R3) (i := 1) (v := .int .i64 ps) rfl; have e2 := own_same (unhide R3) (i := 2) (v := .int .i64 rg) rfl; have X3 := hide x3; have B3 := hide b3; clear x3 b3)
          | (go_at_call 11; refine Calls.mono (unhide HMg (w3.setCell ⟨T, 3, none⟩ (.slice (some ⟨g3, 0, none⟩) 2 cap3)) w2.heap.size g3 cap3 ad3 ((unhide B3).grown (k_grown_set _ _ _ _) (unhide R3) (by decide) (by decide)) (by simp only [World.setCell, Array.size_modify]; exact (unhide X3).size)) ?_; rintro e w5 ⟨g5, cap5, d5, rfl, b5, gr5⟩; have GR5 : Hd (GrE w2.heap.size (w3.setCell ⟨T, 3, none⟩ (.slice (some ⟨g3, 0, none⟩) 2 cap3)) w5) := gr5; have R5 : Hd (Row w5 T 24 [.string nm, .int .i64 ps, .int .i64 rg, .slice (some ⟨g3, 0, none⟩) 2 cap3]) := (unhide GR5).row (by have := k_row_set (unhide R3) 3 (.slice (some ⟨g3, 0, none⟩) 2 cap3); simpa using this) (by decide); have D5 : Hd (Row w5 (w.heap.size + 1) 24 [.string ⟨#[]⟩, .int .i64 0, .int .i64 0, .slice none 0 0]) := (unhide GR5).row (k_row_other (unhide D3) hDT _ _) (by decide); have t0 : w5.cell? ⟨T, 0, none⟩ = some (.string nm) := (unhide R5).cell 0 rfl; have t1 : w5.cell? ⟨T, 1, none⟩ = some (.int .i64 ps) := (unhide R5).cell 1 rfl; have t2 : w5.cell? ⟨T, 2, none⟩ = some (.int .i64 rg) := (unhide R5).cell 2 rfl; have t3 : w5.cell? ⟨T, 3, none⟩ = some (.slice (some ⟨g3, 0, none⟩) 2 cap3) := (unhide R5).cell 3 rfl; have ft := (fun j : Nat => k_rowF (unhide R5) j); have d0 : w5.cell? ⟨w.heap.size + 1, 0, none⟩ = some (.string ⟨#[]⟩) := (unhide D5).cell 0 rfl; have d1 : w5.cell? ⟨w.heap.size + 1, 1, none⟩ = some (.int .i64 0) := (unhide D5).cell 1 rfl; have d2 : w5.cell? ⟨w.heap.size + 1, 2, none⟩ = some (.int .i64 0) := (unhide D5).cell 2 rfl; have d3 : w5.cell? ⟨w.heap.size + 1, 3, none⟩ = some (.slice none 0 0) := (unhide D5).cell 3 rfl; have fd := (fun j : Nat => k_rowF (unhide D5) j); have B5 := hide b5; clear b5 gr5))
        refine bodyPost_ret (v := rfV nm ps rg (some ⟨g5, 0, none⟩) 1 cap5) (by simp [results, Try.results5, go_sem, d0, d1, d2, d3, hDT, hTD]) rfl ⟨g5, cap5, [d5], rfl, ?_, ?_⟩
        · have b6 := (unhide B5).grown (k_grown_set w5 T 3 (.slice (some ⟨g5, 0, none⟩) 1 cap5)) (unhide R5) (by decide) (by decide)
          have r6 : Row (w5.setCell ⟨T, 3, none⟩ (.slice (some ⟨g5, 0, none⟩) 1 cap5)) (w.heap.size + 1) 24 [.string ⟨#[]⟩, .int .i64 0, .int .i64 0, .slice none 0 0] := k_row_other (unhide D5) hDT _ _
          have b7 := b6.grown (gb_trans (gb_trans (gb_trans (k_grown_set _ (w.heap.size + 1) 0 (.string nm)) (k_grown_set _ _ 1 (.int .i64 ps))) (k_grown_set _ _ 2 (.int .i64 rg))) (k_grown_set _ _ 3 (.slice (some ⟨g5, 0, none⟩) 1 cap5))) r6 (by decide) (by decide)
          exact b7.rep.to fun q hq => ⟨hq.2, rfl⟩
        · have x3 : Ext w w3 := (unhide X2).trans (unhide X3)
          have x4 : Ext w (w3.setCell ⟨T, 3, none⟩ (.slice (some ⟨g3, 0, none⟩) 2 cap3)) := x3.set (by have := (unhide Hgg).2.2.2; show w.heap.size ≤ T; omega) _
          have x5 := (unhide GR5).toExt x4 (unhide X2).size
          have hT1 : w.heap.size ≤ T := by have := (unhide Hgg).2.2.2; omega
          exact ((((x5.set (p := ⟨T, 3, none⟩) hT1 _).set (by simp) _).set (by simp) _).set (by simp) _).set (by simp) _

end Go.Proofs.Ytdnhekgbfhlhoaa
