/- Unreach. -/
import Derived.Test.YtdnhekgbfhlhoaaThD
set_option linter.unusedSimpArgs false
set_option linter.unusedVariables false
set_option maxRecDepth 10000
namespace Go.Proofs.Ytdnhekgbfhlhoaa
open Go.RowKit

/-- Behind Unreach. -/
def UnE (w : World) (nm : ByteArray) (ps rg : Int) (l : List RB) (e : Ending) (w' : World) : Prop := ∃ g cap ads, e = .returned (rfV nm ps rg (some ⟨g, 0, none⟩) l.length cap) ∧ BlS w' w.heap.size g cap l ads ∧ Ext w w'

theorem BlS.mono {w : World} {base base' g cap : Nat} {l : List RB} {ads : List (Option Addr × Nat)} (h : BlS w base g cap l ads) (hb : base' ≤ base) : BlS w base' g cap l ads :=
  ⟨h.len, World.ownsRow.mono h.own hb, fun i b d h1 h2 => World.ownsRow.mono (h.ins i b d h1 h2) hb, h.nz⟩

set_option maxHeartbeats 4000000 in
theorem passed_w (nm : ByteArray) (ps rg : Int) (a : Option Addr) (c : Nat) (l : List RB) (ads : List (Option Addr × Nat)) (rc : List Bool) (K : Nat) (F : GW) (S : Nat) (w : World) (hn : 0 < l.length) (hn2 : l.length ≤ 1000) (hc : ∀ (i : Nat) (b : RB), l[i]? = some b → b.c ≤ 1000) (hr : RepB w (In w) a l ads)
    (hK : K ≤ 7000000) (hF : gWalk (l.map (fun b => waysP b.t)) K = some F) (hrc : F.shut = rc) (h0 : 0 < (keepL l rc l.length).length) (hS : w.cell? ⟨S, 0, none⟩ = some (.func (.func 21) #[] #[])) :
    Calls Try.prog 20 #[rfV nm ps rg a l.length c, .slice (some ⟨S, 0, none⟩) 1 1] w (UnE w nm ps rg (dropP l rc)) := by
  have HOw := hide (fun (W : World) (x : Ext w W) => ownF_w nm ps rg a c l ads W hn hn2 hc (hr.ext x))
  have HDr := hide (fun (W : World) (C base g cap : Nat) (ads : List (Option Addr × Nat)) (hC : Row W C 73 (cdC nm ps rg g l.length cap)) (hb : BlS W base g cap l ads) (hbw : base ≤ W.heap.size) => drop_w C base g cap nm ps rg l ads rc K F W hn hn2 hK hF hrc h0 hC hb hbw)
  obtain ⟨n, hln⟩ : ∃ n, n = l.length := ⟨_, rfl⟩
  have HN := hide hln
  rw [← hln] at hn hn2 HOw HDr ⊢
  generalize dropP l rc = dl at *
  clear hr hc hln hF hrc h0
  unfold UnE
  obtain ⟨m, hdl⟩ : ∃ m, m = dl.length := ⟨_, rfl⟩
  have HM := hide hdl
  rw [← hdl] at HDr ⊢
  clear hdl
  have HSc := hide hS
  go_enter Try.func20, Try.ntmps20
  go_wp2_with (go_at_call 8; refine Calls.mono (unhide HOw _ (ext2 _ _)) ?_; rintro e w1 ⟨g, cap, ad2, rfl, b1, x1⟩; have B1 := hide b1; have X1 := hide x1; clear b1 x1)
  have XE : Hd (Ext w w1) := (ext2 _ _).trans (unhide X1)
  have hR2 : Hd (Row w1 (w.heap.size + 1) 24 [.string ⟨#[]⟩, .int .i64 0, .int .i64 0, .slice none 0 0]) := by
    have := (unhide X1).row (Row.new (w.alloc (.cells #[.string nm, .int .i64 ps, .int .i64 rg, .slice a n c] 24)) [.string ⟨#[]⟩, .int .i64 0, .int .i64 0, .slice none 0 0] 24)
    rw [sz1] at this
    exact this
  have HB : Hd (BlS w1 w.heap.size g cap l ad2) := (unhide B1).mono (by rw [sz1, sz1]; omega)
  clear X1 B1 HOw
  go_loopw [14] (fun t wr => (t = .int .i64 0 ∧ wr = w1.alloc (.cells #[.string nm, .int .i64 ps, .int .i64 rg, .slice (some ⟨g, 0, none⟩) n cap] 73)) ∨ (t = .int .i64 1 ∧ ∃ g2 cap2 ads2, Hd (Row wr w1.heap.size 73 (cdC nm ps rg g2 m cap2)) ∧ Hd (BlS wr w.heap.size g2 cap2 dl ads2) ∧ Hd (Ext w1 wr))) (fun t _ => 1 - (intOf t).toNat)
  case atStart => exact Or.inl ⟨rfl, rfl⟩
  case round =>
    rcases hrel with ⟨rfl, rfl⟩ | ⟨rfl, g2, cap2, ads2, hC, hB2, hX2⟩
    · have cS := (Ext.alloc w1 (.cells #[.string nm, .int .i64 ps, .int .i64 rg, .slice (some ⟨g, 0, none⟩) n cap] 73)).cell ((unhide XE).cell hS)
      have HD := hide (unhide HDr _ w1.heap.size w.heap.size g cap ad2 (Row.new w1 (cdC nm ps rg g n cap) 73) ((unhide HB).on (Ext.alloc _ _)) (Nat.le_trans (unhide XE).size (by rw [sz1]; omega)))
      have HX1 := hide (Ext.alloc w1 (.cells #[.string nm, .int .i64 ps, .int .i64 rg, .slice (some ⟨g, 0, none⟩) n cap] 73))
      go_wp2_with (go_at_call 21; refine Calls.mono (unhide HD) ?_; rintro e w2 ⟨rfl, g2, cap2, ads2, r2, b2, hg2, gb2⟩; have R2 := hide r2; have B2 := hide b2; have E2 := hide (ext_gb (gb_new (gb_ext (unhide HX1) none) gb2 (Nat.le_refl _))); clear r2 b2 gb2 hg2)
      go_roundw
      case rel => exact Or.inr ⟨by go_num, g2, cap2, ads2, R2, B2, E2⟩
      case measure => simp [intOf]; try omega
    · have c0 := (unhide hC).cell 0 rfl
      have c1 := (unhide hC).cell 1 rfl
      have c2 := (unhide hC).cell 2 rfl
      have c3 := (unhide hC).cell 3 rfl
      have rr := (unhide hR2).on (unhide hX2)
      have d0 := rr.cell 0 rfl
      have d1 := rr.cell 1 rfl
      have d2 := rr.cell 2 rfl
      have d3 := rr.cell 3 rfl
      have fd := fun j : Nat => k_rowF rr j
      have HRR := hide rr
      have XF := hide ((unhide XE).trans (unhide hX2))
      clear rr
      go_wp2_with fail
      refine bodyPost_ret (v := rfV nm ps rg (some ⟨g2, 0, none⟩) m cap2) (by simp [results, Try.results20, go_sem, d0, d1, d2, d3]) rfl ⟨g2, cap2, ads2, rfl, ?_, ?_⟩
      · exact (unhide hB2).grown (gb_trans (gb_trans (gb_trans (k_grown_set _ _ _ _) (k_grown_set _ _ _ _)) (k_grown_set _ _ _ _)) (k_grown_set _ _ _ _)) (unhide HRR) (by decide) (by decide)
      · exact ((((unhide XF).set (by simp) _).set (by simp) _).set (by simp) _).set (by simp) _

set_option maxHeartbeats 2000000 in
theorem unreach_w (nm : ByteArray) (ps rg : Int) (a : Option Addr) (c : Nat) (l : List RB) (ads : List (Option Addr × Nat)) (rc : List Bool) (K : Nat) (F : GW) (w : World) (hn : 0 < l.length) (hn2 : l.length ≤ 1000) (hc : ∀ (i : Nat) (b : RB), l[i]? = some b → b.c ≤ 1000) (hr : RepB w (In w) a l ads)
    (hK : K ≤ 7000000) (hF : gWalk (l.map (fun b => waysP b.t)) K = some F) (hrc : F.shut = rc) (h0 : 0 < (keepL l rc l.length).length) :
    Calls Try.prog 10 #[rfV nm ps rg a l.length c] w (UnE w nm ps rg (dropP l rc)) := by
  have HP := hide (fun (S : Nat) (W : World) (x : Ext w W) (hS : W.cell? ⟨S, 0, none⟩ = some (.func (.func 21) #[] #[])) => passed_w nm ps rg a c l ads rc K F S W hn hn2 hc (hr.ext x) hK hF hrc h0 hS)
  obtain ⟨n, hln⟩ : ∃ n, n = l.length := ⟨_, rfl⟩
  rw [← hln] at HP ⊢
  generalize dropP l rc = dl at *
  clear hr hc hln hF hrc h0
  unfold UnE
  unfold UnE at HP
  obtain ⟨m, hdl⟩ : ∃ m, m = dl.length := ⟨_, rfl⟩
  rw [← hdl] at HP ⊢
  clear hdl
  have hS0 : Hd (∀ (o1 o2 : Obj), (((w.alloc o1).alloc o2).alloc (.cells #[.func (.func 21) #[] #[]] 57)).cell? ⟨w.heap.size + 2, 0, none⟩ = some (.func (.func 21) #[] #[])) := fun o1 o2 => by
    have := cell_box ((w.alloc o1).alloc o2) #[.func (.func 21) #[] #[]] 57 0 rfl
    rw [sz1, sz1] at this
    exact this
  go_enter Try.func10, Try.ntmps10
  go_wp2_with (go_at_call 20; refine Calls.mono (unhide HP _ _ ((ext2 _ _).trans (Ext.alloc _ _)) (unhide hS0 _ _)) ?_; rintro e w1 ⟨g, cap, ads2, rfl, b1, x1⟩; obtain ⟨_, _, d, fd, xx⟩ := two_box ((Ext.alloc _ _).trans x1); have d0 : w1.cell? ⟨w.heap.size + 1, 0, none⟩ = some (.string ⟨#[]⟩) := d 0 _ rfl; have d1 : w1.cell? ⟨w.heap.size + 1, 1, none⟩ = some (.int .i64 0) := d 1 _ rfl; have d2 : w1.cell? ⟨w.heap.size + 1, 2, none⟩ = some (.int .i64 0) := d 2 _ rfl; have d3 : w1.cell? ⟨w.heap.size + 1, 3, none⟩ = some (.slice none 0 0) := d 3 _ rfl; have B1 := hide b1; have X1 := hide x1; have XX := hide xx; clear b1 x1 d xx)
  have rr : Row w1 (w.heap.size + 1) 24 [.string ⟨#[]⟩, .int .i64 0, .int .i64 0, .slice none 0 0] := by
    have := ((Ext.alloc _ _).trans (unhide X1)).row (Row.new (w.alloc (.cells #[.string nm, .int .i64 ps, .int .i64 rg, .slice a n c] 24)) [.string ⟨#[]⟩, .int .i64 0, .int .i64 0, .slice none 0 0] 24)
    rw [sz1] at this
    exact this
  refine bodyPost_ret (v := rfV nm ps rg (some ⟨g, 0, none⟩) m cap) (by simp [results, Try.results10, go_sem, d0, d1, d2, d3]) rfl ⟨g, cap, ads2, rfl, ?_, ?_⟩
  · have hb : BlS w1 w.heap.size g cap dl ads2 := (unhide B1).mono (by rw [sz1, sz1, sz1]; omega)
    exact hb.grown (gb_trans (gb_trans (gb_trans (k_grown_set _ _ _ _) (k_grown_set _ _ _ _)) (k_grown_set _ _ _ _)) (k_grown_set _ _ _ _)) rr (by decide) (by decide)
  · exact ((((unhide XX).set (by simp) _).set (by simp) _).set (by simp) _).set (by simp) _

end Go.Proofs.Ytdnhekgbfhlhoaa
