/- Own: a function in memory of its own. -/
import Derived.Test.YtdnhekgbfhlhoaaThV
import Derived.Deep.Onto
set_option linter.unusedSimpArgs false
set_option linter.unusedVariables false
set_option maxRecDepth 10000
namespace Go.Proofs.Ytdnhekgbfhlhoaa
open Go.RowKit

abbrev rfV (nm : ByteArray) (ps rg : Int) (a : Option Addr) (n c : Nat) : Value := .agg #[.string nm, .int .i64 ps, .int .i64 rg, .slice a n c]
/-- Under way: the instructions of the first i blocks are copied. -/
structure OwI (w wr : World) (nm : ByteArray) (ps rg : Int) (g cap : Nat) (l : List RB) (ads ad2 : List (Option Addr × Nat)) (i : Nat) : Prop where
  ext : Ext w wr
  gb : w.heap.size + 2 ≤ g
  box : wr.heap[w.heap.size]? = some (.cells #[.string nm, .int .i64 ps, .int .i64 rg, .slice (some ⟨g, 0, none⟩) l.length cap] 24 (0, 0))
  bx2 : wr.heap[w.heap.size + 1]? = some (.cells #[.string ⟨#[]⟩, .int .i64 0, .int .i64 0, .slice none 0 0] 24 (0, 0))
  len : ad2.length = l.length
  own : wr.ownsRow w.heap.size 37 5 (.slice (some ⟨g, 0, none⟩) l.length cap) l.length (bC l ad2)
  new : ∀ (k : Nat) (b : RB) (d : Option Addr × Nat), k < i → l[k]? = some b → ad2[k]? = some d → wr.ownsRow w.heap.size 32 12 (.slice d.1 b.c d.2) b.c (outs b.c) ∧ (b.c = 0 → d = (none, 0))
  old : ∀ k : Nat, i ≤ k → ad2[k]? = ads[k]?

theorem OwI.on {w wr w2 : World} {nm : ByteArray} {ps rg : Int} {g cap : Nat} {l : List RB} {ads ad2 : List (Option Addr × Nat)} {i : Nat} (h : OwI w wr nm ps rg g cap l ads ad2 i) (x : Ext wr w2) : OwI w w2 nm ps rg g cap l ads ad2 i :=
  ⟨h.ext.trans x, h.gb, x.row h.box, x.row h.bx2, h.len, k_own_heap h.own (fun q hq => x.block q (h.own.lt q hq).2), fun k b d h1 h2 h3 => ⟨k_own_heap (h.new k b d h1 h2 h3).1 (fun q hq => x.block q ((h.new k b d h1 h2 h3).1.lt q hq).2), (h.new k b d h1 h2 h3).2⟩, h.old⟩
theorem OwI.step {w wr : World} {nm : ByteArray} {ps rg : Int} {g cap : Nat} {l : List RB} {ads ad2 : List (Option Addr × Nat)} {i : Nat} (h : OwI w wr nm ps rg g cap l ads ad2 i) {b : RB} {d : Option Addr × Nat} (hi : l[i]? = some b)
    (hd : wr.ownsRow w.heap.size 32 12 (.slice d.1 b.c d.2) b.c (outs b.c)) (hz : b.c = 0 → d = (none, 0)) :
    OwI w (wr.setCell ⟨g, i * 5, none⟩ (.slice d.1 b.c d.2)) nm ps rg g cap l ads (ad2.set i d) (i + 1) := by
  have hil := (List.getElem?_eq_some_iff.1 hi).1
  obtain ⟨d0, hd0⟩ : ∃ d0, ad2[i]? = some d0 := ⟨_, List.getElem?_eq_getElem (by rw [h.len]; exact hil)⟩
  have ho := own_setB h.own (i * 5) (.slice d.1 b.c d.2)
  rw [bC_setI hi hd0] at ho
  have hgb := h.gb
  have keep : ∀ {n : Nat} {v : Value} {xs : List Value}, wr.ownsRow w.heap.size 32 12 v n xs → (wr.setCell ⟨g, i * 5, none⟩ (.slice d.1 b.c d.2)).ownsRow w.heap.size 32 12 v n xs := fun {n v xs} hr => k_own_heap hr (fun q hq => by
    refine k_row_other rfl (fun e => ?_) _ _
    subst e
    rcases own_twoB hr h.own (by decide) with e1 | e1
    · rw [e1] at hq; cases hq
    · exact e1 (by rw [hq]; rfl))
  refine ⟨h.ext.set (by show w.heap.size ≤ g; omega) _, hgb, k_row_other h.box (by omega) _ _, k_row_other h.bx2 (by omega) _ _, by rw [List.length_set]; exact h.len, ho, fun k b2 d2 hk h1 h2 => ?_, fun k hk => ?_⟩
  · rw [List.getElem?_set] at h2
    split at h2
    · rename_i e
      subst e
      rw [if_pos (by rw [h.len]; exact hil)] at h2
      injection h2 with h2
      rw [hi] at h1
      injection h1 with h1
      subst h1 h2
      exact ⟨keep hd, hz⟩
    · rename_i e
      have := h.new k b2 d2 (by omega) h1 h2
      exact ⟨keep this.1, this.2⟩
  · rw [List.getElem?_set, if_neg (by omega)]
    exact h.old k (by omega)
theorem OwI.done {w wr : World} {nm : ByteArray} {ps rg : Int} {g cap : Nat} {l : List RB} {ads ad2 : List (Option Addr × Nat)} (h : OwI w wr nm ps rg g cap l ads ad2 l.length) : BlS wr w.heap.size g cap l ad2 :=
  ⟨h.len, h.own, fun i b d h1 h2 => (h.new i b d (List.getElem?_eq_some_iff.1 h1).1 h1 h2).1, fun i b d h1 h2 => (h.new i b d (List.getElem?_eq_some_iff.1 h1).1 h1 h2).2⟩
theorem OwI.start {w w1 : World} {nm : ByteArray} {ps rg : Int} {g cap c : Nat} {a : Option Addr} {l : List RB} {ads : List (Option Addr × Nat)} (hl : ads.length = l.length)
    (x : Ext ((w.alloc (.cells #[.string nm, .int .i64 ps, .int .i64 rg, .slice a l.length c] 24)).alloc (.cells #[.string ⟨#[]⟩, .int .i64 0, .int .i64 0, .slice none 0 0] 24)) w1)
    (hg : w.heap.size + 2 ≤ g) (ho : w1.ownsRow (w.heap.size + 2) 37 5 (.slice (some ⟨g, 0, none⟩) l.length cap) l.length (bC l ads)) :
    OwI w (w1.setCell ⟨w.heap.size, 3, none⟩ (.slice (some ⟨g, 0, none⟩) l.length cap)) nm ps rg g cap l ads ads 0 := by
  have e := ((Ext.alloc w (.cells #[.string nm, .int .i64 ps, .int .i64 rg, .slice a l.length c] 24)).trans (Ext.alloc _ _)).trans x
  have r1 := ((Ext.alloc _ (.cells #[.string ⟨#[]⟩, .int .i64 0, .int .i64 0, .slice none 0 0] 24)).trans x).row (Row.new w [.string nm, .int .i64 ps, .int .i64 rg, .slice a l.length c] 24)
  have r2 := x.row (Row.new (w.alloc (.cells #[.string nm, .int .i64 ps, .int .i64 rg, .slice a l.length c] 24)) [.string ⟨#[]⟩, .int .i64 0, .int .i64 0, .slice none 0 0] 24)
  rw [sz1] at r2
  refine ⟨e.set (Nat.le_refl _) _, hg, ?_, k_row_other r2 (by omega) _ _, hl, k_own_heap (World.ownsRow.mono ho (by omega)) (fun q hq => k_row_other rfl (by simp only [Value.ownBlock, Option.some.injEq] at hq; omega) _ _), fun k _ _ hk => by omega, fun _ _ => rfl⟩
  have := k_row_set r1 3 (.slice (some ⟨g, 0, none⟩) l.length cap)
  simpa using this

theorem OwI.at {w wr : World} {nm : ByteArray} {ps rg : Int} {g cap : Nat} {l : List RB} {ads ad2 : List (Option Addr × Nat)} {i : Nat} (h : OwI w wr nm ps rg g cap l ads ad2 i) {k : Nat} {b : RB} (hk : l[k]? = some b) :
    ∃ d, ad2[k]? = some d ∧ wr.cell? ⟨g, k * 5, none⟩ = some (.slice d.1 b.c d.2) ∧ (∀ j : Nat, wr.frozen? ⟨g, j, none⟩ = false) ∧ wr.cell? ⟨w.heap.size, 3, none⟩ = some (.slice (some ⟨g, 0, none⟩) l.length cap) := by
  have hil := (List.getElem?_eq_some_iff.1 hk).1
  obtain ⟨d, hd⟩ : ∃ d, ad2[k]? = some d := ⟨_, List.getElem?_eq_getElem (by rw [h.len]; exact hil)⟩
  refine ⟨d, hd, ?_, fun j => ?_, k_rowC h.box 3 rfl⟩
  · have := h.own.cells (g := g) rfl (k * 5 + 0) _ (bC_at hk hd 0 rfl)
    rw [k_add] at this
    exact this
  · obtain ⟨_, ⟨e, _⟩ | ⟨g2, cap2, cur, e, hb, hg, _⟩⟩ := h.own
    · cases e
    · injection e with e1 e2 e3
      injection e1 with e1
      injection e1 with e1 _
      subst e1
      exact k_rowF hg j
/-- Of a row of outputs the k-th: what is copied of it is as it was. -/
theorem out_same {w : World} {base n : Nat} {d : Option Addr × Nat} (h : w.ownsRow base 32 12 (.slice d.1 n d.2) n (outs n)) {k : Nat} (hk : k < n) :
    ∃ ib, d.1 = some ⟨ib, 0, none⟩ ∧ (∀ j : Nat, w.frozen? ⟨ib, j, none⟩ = false) ∧ (∀ (j : Nat) (v : Value), j < 12 → outC[j]? = some v → w.cell? ⟨ib, k * 12 + j, none⟩ = some v ∧ ∀ W, Ext w W → W.setCell ⟨ib, k * 12 + j, none⟩ v = W) := by
  have ho := h
  obtain ⟨h1, ⟨e, h0⟩ | ⟨g, cap, cur, e, hb, hg, hn, hcm, hcs, ht⟩⟩ := h
  · omega
  · injection e with e1 e2 e3
    refine ⟨g, e1, fun j => k_rowF hg j, fun j v hj hv => ?_⟩
    have hx : (outs n)[k * 12 + j]? = some v := by rw [outs_at n k j hk hj]; exact hv
    refine ⟨?_, fun W x => own_same (x.row hg) ?_⟩
    · rw [e1] at ho
      have := ho.cells (g := g) rfl _ _ hx
      rw [k_add] at this
      exact this
    · rw [← ht, List.getElem?_take] at hx
      split at hx
      · simpa using hx
      · cases hx
set_option maxHeartbeats 1000000 in
theorem cloneA_w (d : Option Addr × Nat) (n : Nat) (w : World) (hn2 : n ≤ 1000) (hr : RepO w (In w) d n) : Calls Try.prog 15 #[.slice d.1 n d.2] w fun e w' => ∃ d2 : Option Addr × Nat, e = .returned (.slice d2.1 n d2.2) ∧ w'.ownsRow w.heap.size 32 12 (.slice d2.1 n d2.2) n (outs n) ∧ (n = 0 → d2 = (none, 0)) ∧ Ext w w' := by
  by_cases h0 : n = 0
  · subst h0
    have hd : d = (none, 0) := by
      rcases hr with h | h
      · exact h.2
      · omega
    subst hd
    refine Calls.mono (cloneO_nil w) ?_
    rintro e w' ⟨rfl, rfl⟩
    exact ⟨(none, 0), rfl, World.ownsRow_nil _ _ _ _, fun _ => rfl, Ext.refl _⟩
  · refine Calls.mono (cloneO_w d n w (by omega) (by omega) hr) ?_
    rintro e w' ⟨g, cap, rfl, _, ho, x⟩
    exact ⟨(some ⟨g, 0, none⟩, cap), rfl, ho, fun h => absurd h h0, x⟩

set_option maxHeartbeats 2000000 in
theorem ownF_w (nm : ByteArray) (ps rg : Int) (a : Option Addr) (c : Nat) (l : List RB) (ads : List (Option Addr × Nat)) (w : World) (hn : 0 < l.length) (hn2 : l.length ≤ 1000) (hc : ∀ (i : Nat) (b : RB), l[i]? = some b → b.c ≤ 1000) (hr : RepB w (In w) a l ads) :
    Calls Try.prog 8 #[rfV nm ps rg a l.length c] w fun e w' => ∃ g cap ad2, e = .returned (rfV nm ps rg (some ⟨g, 0, none⟩) l.length cap) ∧ BlS w' w.heap.size g cap l ad2 ∧ Ext w w' := by
  have HCl := hide (fun (W : World) (x : Ext w W) => cloneB_w a l ads c W hn (by omega) (hr.ext x))
  have HCo := hide cloneA_w
  have HCi := hide cloneI_nil
  have HCv := hide copy_nil
  have HR := hide hr
  have HC := hide hc
  have HLn := hide hr.len
  obtain ⟨n, hln⟩ : ∃ n, n = l.length := ⟨_, rfl⟩
  have HN := hide hln
  clear hr hc
  rw [← hln] at hn hn2 ⊢
  rw [← hln] at HCl
  clear hln
  go_enter Try.func8, Try.ntmps8
  go_wp2_with (go_at_call 14; refine Calls.mono (unhide HCl _ (ext2 _ _)) ?_; rintro e w1 ⟨g, cap, rfl, hg, ho, x1⟩; rw [sz1, sz1] at hg ho; obtain ⟨_, f, _, _, _⟩ := two_box x1; have S0 := hide (OwI.start (unhide HLn) (by rw [← unhide HN]; exact x1) hg (by rw [← unhide HN]; exact ho)); rw [← unhide HN] at S0; have c3 := (two_box x1).1 3 _ rfl; clear x1 hg ho)
  go_loopw [14] (fun t wr => ∃ (i : Nat) (ad2 : List (Option Addr × Nat)), t = .int .i64 (i : Int) ∧ i ≤ n ∧ Hd (OwI w wr nm ps rg g cap l ads ad2 i)) (fun t _ => n - (intOf t).toNat)
  case atStart => exact ⟨0, ads, rfl, by omega, S0⟩
  case round =>
    clear S0 c3 f
    obtain ⟨i, ad2, rfl, hi, hS⟩ := hrel
    by_cases hlt : i < n
    · obtain ⟨b, hb⟩ : ∃ b, l[i]? = some b := ⟨_, List.getElem?_eq_getElem (by rw [← unhide HN]; exact hlt)⟩
      have hbc := unhide HC i b hb
      obtain ⟨d, hd, c0, fg, c3⟩ := (unhide hS).at hb
      rw [← unhide HN] at c3
      have hO : Hd (RepO wr (In wr) d b.c) := by
        refine RepO.to ?_ ((unhide HR).ins i b d hb ?_)
        · intro q hq
          exact ⟨Nat.lt_of_lt_of_le hq (unhide hS).ext.size, (unhide hS).ext.block q hq⟩
        · rw [← (unhide hS).old i (Nat.le_refl _)]; exact hd
      have Hb := hide hb
      obtain ⟨m, hm⟩ : ∃ m, m = b.c := ⟨_, rfl⟩
      rw [← hm] at hO c0 hbc
      have Hm := hide hm
      have hlt2 : (i : Int) < (n : Int) := by omega
      clear hb hd hm
      go_wp2_with (go_at_call 15; refine Calls.mono (unhide HCo _ _ _ hbc (unhide hO)) ?_; rintro e w2 ⟨d2, rfl, ho, hz, x2⟩; have c3 := x2.cell c3; have c0 := x2.cell c0; have fg2 : ∀ j : Nat, w2.frozen? ⟨g, j, none⟩ = false := (fun j => (((unhide hS).on x2).at (unhide Hb)).choose_spec.2.2.1 j); have S2 := hide (((unhide hS).on x2).step (d := d2) (unhide Hb) (by rw [← unhide Hm]; exact World.ownsRow.mono ho (unhide hS).ext.size) (by rw [← unhide Hm]; exact hz)); rw [← unhide Hm] at S2; clear ho hz x2)
      go_loopw [34] (fun t wq => ∃ (k : Nat), t = .int .i64 (k : Int) ∧ k ≤ m ∧ Hd (OwI w wq nm ps rg g cap l ads (ad2.set i d2) (i + 1))) (fun t _ => m - (intOf t).toNat)
      case atStart => exact ⟨0, rfl, by omega, S2⟩
      case round =>
        clear S2 c3 c0 fg fg2 hO
        obtain ⟨k, rfl, hk, hS⟩ := hrel
        by_cases hkm : k < m
        · obtain ⟨d3, hd3, c0, fg, c3⟩ := (unhide hS).at (unhide Hb)
          have hn3 := ((unhide hS).new i b d3 (by omega) (unhide Hb) hd3).1
          rw [← unhide Hm] at c0 hn3
          obtain ⟨ib, hib, fb, hcs⟩ := out_same hn3 hkm
          obtain ⟨d3a, d3c⟩ := d3
          simp only at hib c0
          subst hib
          have HX := hide hcs
          have y6 := (hcs 6 _ (by omega) rfl).1
          have y7 := (hcs 7 _ (by omega) rfl).1
          have y8 := (hcs 8 _ (by omega) rfl).1
          have y9 := (hcs 9 _ (by omega) rfl).1
          have y10 := (hcs 10 _ (by omega) rfl).1
          have y11 := (hcs 11 _ (by omega) rfl).1
          have hkm2 : (k : Int) < (m : Int) := by omega
          clear hd3 hn3 hcs
          go_wp2_with fail
          go_region_with (first | (go_at_call 16; refine Calls.mono (unhide HCv _) ?_; rintro e w3 ⟨rfl, x3⟩; have X3 := hide x3; have fb := fun j : Nat => (World.frozen?_of_block (a := ⟨ib, j, none⟩) (x3.block ib (World.block_lt_of_cell? _ _ y11))).trans (fb j); have y6 := x3.cell y6; have y7 := x3.cell y7; have y8 := x3.cell y8; have y9 := x3.cell y9; have y10 := x3.cell y10; have y11 := x3.cell y11; clear x3) | (go_at_call 17; refine Calls.mono (unhide HCi _) ?_; rintro e w4 ⟨rfl, hw4⟩; obtain rfl := hw4.symm; clear hw4))
          all_goals
            have hx : Ext wr w3 := (Ext.drew (Ext.refl wr)).trans (unhide X3)
            have e6 : w3.setCell ⟨ib, k * 12 + 6, none⟩ (.int .i64 0) = w3 := (unhide HX 6 _ (by omega) rfl).2 w3 hx
            have e7 : w3.setCell ⟨ib, k * 12 + 6 + 1, none⟩ (.int .i64 0) = w3 := (unhide HX 7 _ (by omega) rfl).2 w3 hx
            have e8 : w3.setCell ⟨ib, k * 12 + 6 + 2, none⟩ (.complex .f64 0 0) = w3 := (unhide HX 8 _ (by omega) rfl).2 w3 hx
            have e9 : w3.setCell ⟨ib, k * 12 + 6 + 3, none⟩ (.string ⟨#[]⟩) = w3 := (unhide HX 9 _ (by omega) rfl).2 w3 hx
            have e10 : w3.setCell ⟨ib, k * 12 + 6 + 4, none⟩ (.slice none 0 0) = w3 := (unhide HX 10 _ (by omega) rfl).2 w3 hx
            have e11 : w3.setCell ⟨ib, k * 12 + 11, none⟩ (.slice none 0 0) = w3 := (unhide HX 11 _ (by omega) rfl).2 w3 hx
            have S3 := hide ((unhide hS).on hx)
            rw [e6, e7, e8, e9, e10, e11]
            clear e6 e7 e8 e9 e10 e11 hS X3 hx y6 y7 y8 y9 y10 y11 fb c0 c3 fg HX
            go_wp2_with fail
            go_roundw
            case rel => exact ⟨k + 1, by go_num, by omega, S3⟩
            case measure => simp [intOf]; omega
        · obtain rfl : k = m := by omega
          go_wp2_with fail
          go_roundw
          case rel => exact ⟨i + 1, ad2.set i d2, by go_num, by omega, hS⟩
          case measure => simp [intOf]; omega
    · obtain rfl : i = n := by omega
      have hbx := (unhide hS).box
      have hb2 := (unhide hS).bx2
      have b0 := k_rowC hbx 0 rfl
      have b1 := k_rowC hbx 1 rfl
      have b2 := k_rowC hbx 2 rfl
      have b3 := k_rowC hbx 3 rfl
      rw [← unhide HN] at b3
      have d0 := k_rowC hb2 0 rfl
      have d1 := k_rowC hb2 1 rfl
      have d2 := k_rowC hb2 2 rfl
      have d3 := k_rowC hb2 3 rfl
      have fd := fun j : Nat => k_rowF hb2 j
      have HB2 := hide hb2
      clear hbx hb2
      go_wp2_with fail
      refine bodyPost_ret (v := rfV nm ps rg (some ⟨g, 0, none⟩) i cap) (by simp [results, Try.results8, go_sem, d0, d1, d2, d3]) rfl ⟨g, cap, ad2, rfl, ?_, ?_⟩
      · have hD := unhide hS
        rw [unhide HN] at hD
        exact hD.done.grown (gb_trans (gb_trans (gb_trans (k_grown_set _ _ _ _) (k_grown_set _ _ _ _)) (k_grown_set _ _ _ _)) (k_grown_set _ _ _ _)) (unhide HB2) (by decide) (by decide)
      · exact ((((unhide hS).ext.set (by simp) _).set (by simp) _).set (by simp) _).set (by simp) _

end Go.Proofs.Ytdnhekgbfhlhoaa
