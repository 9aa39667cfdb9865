/- A value that is nil, copied; copies of rows. -/
import Derived.Test.YtdnhekgbfhlhoaaThA
set_option linter.unusedSimpArgs false
set_option linter.unusedVariables false
set_option maxRecDepth 10000
namespace Go.Proofs.Ytdnhekgbfhlhoaa
open Go.RowKit

@[go_sem] theorem run_store_complex (P : Program) (w : World) (a : Addr) (m : Mode) (k : FloatKind) (x y : Nat) : (store a (.complex k x y) m).run P w = stored P w a (.complex k x y) m := run_store P w a _ m rfl

set_option maxHeartbeats 1000000 in
theorem sizeW_nil (w : World) (d : Int) : Calls Try.prog 61 #[nilV, .int .i64 d] w fun e w' => e = .returned (.int .i64 1) ∧ Ext w w' := by
  go_enter Try.func61, Try.ntmps61
  go_wp2_with fail
  go_ret
  exact ⟨rfl, Ext.alloc _ _⟩
set_option maxHeartbeats 1000000 in
theorem size_nil (w : World) : Calls Try.prog 55 #[nilV] w fun e w' => e = .returned (.int .i64 1) ∧ Ext w w' := by
  have H := hide (sizeW_nil)
  go_enter Try.func55, Try.ntmps55
  go_wp2_with (go_at_call 61; refine Calls.mono (unhide H _ _) ?_; rintro e w1 ⟨rfl, x1⟩; have X1 := hide x1; clear x1)
  go_ret
  exact ⟨rfl, (Ext.alloc _ _).trans (unhide X1)⟩
set_option maxHeartbeats 1000000 in
theorem unused_nil (w : World) : Calls Try.prog 63 #[nilV] w fun e w' => e = .returned (.bool true) ∧ Ext w w' := by
  go_enter Try.func63, Try.ntmps63
  go_wp2_with fail
  go_ret
  exact ⟨retB (by first | rfl | simp | decide), Ext.alloc _ _⟩
set_option maxHeartbeats 1000000 in
theorem well_nil (w : World) : Calls Try.prog 56 #[nilV] w fun e w' => e = .returned (.bool true) ∧ Ext w w' := by
  have H := hide (unused_nil)
  go_enter Try.func56, Try.ntmps56
  go_wp2_with (go_at_call 63; refine Calls.mono (unhide H _) ?_; rintro e w1 ⟨rfl, x1⟩; have X1 := hide x1; have c4 := x1.cell (cell_box w _ 29 4 rfl); clear x1)
  go_loopw [28] (fun t wr => t = .int .i64 0 ∧ wr = w1) (fun _ _ => 0)
  case atStart => exact ⟨rfl, rfl⟩
  case round =>
    obtain ⟨rfl, rfl⟩ := hrel
    go_wp2_with fail
    go_ret
    exact ⟨rfl, (Ext.alloc _ _).trans (unhide X1)⟩

set_option maxHeartbeats 1000000 in
theorem ok_nil (w : World) : Calls Try.prog 44 #[nilV] w fun e w' => e = .returned (.bool true) ∧ Ext w w' := by
  have HS := hide (size_nil)
  have HW := hide (well_nil)
  go_enter Try.func44, Try.ntmps44
  go_wp2_with (first | (go_at_call 55; refine Calls.mono (unhide HS _) ?_; rintro e w1 ⟨rfl, x1⟩; have X1 := hide x1; have c0 := x1.cell (cell_box w _ 29 0 rfl); have c1 := x1.cell (cell_box w _ 29 1 rfl); have c2 := x1.cell (cell_box w _ 29 2 rfl); have c3 := x1.cell (cell_box w _ 29 3 rfl); have c4 := x1.cell (cell_box w _ 29 4 rfl); clear x1) | (go_at_call 56; refine Calls.mono (unhide HW _) ?_; rintro e w2 ⟨rfl, x2⟩; have X2 := hide x2; clear x2))
  go_ret
  exact ⟨retB (by first | rfl | simp | decide), ((Ext.alloc _ _).trans (unhide X1)).trans (unhide X2)⟩
theorem nil_w (w : World) : Calls Try.prog 43 #[] w fun e w' => e = .returned nilV ∧ Ext w w' := by
  go_enter Try.func43, Try.ntmps43
  go_wp2_with fail
  exact bodyPost_ret (v := nilV) (by simp [results, Try.results43, go_sem]) rfl ⟨rfl, Ext.alloc _ _⟩

theorem frozen_box (w : World) (cs : Array Value) (t : TypeId) (i : Nat) : (w.alloc (.cells cs t)).frozen? ⟨w.heap.size, i, none⟩ = false := by
  simp only [World.frozen?, Go.heap_alloc_new w]
  simp
/-- Two boxes that were made one behind the other. -/
theorem two_box {w w' : World} {c1 c2 : Array Value} {t1 t2 : TypeId} (h : Ext ((w.alloc (.cells c1 t1)).alloc (.cells c2 t2)) w') :
    (∀ (i : Nat) (v : Value), c1[i]? = some v → w'.cell? ⟨w.heap.size, i, none⟩ = some v) ∧ (∀ i : Nat, w'.frozen? ⟨w.heap.size, i, none⟩ = false) ∧
    (∀ (i : Nat) (v : Value), c2[i]? = some v → w'.cell? ⟨w.heap.size + 1, i, none⟩ = some v) ∧ (∀ i : Nat, w'.frozen? ⟨w.heap.size + 1, i, none⟩ = false) ∧ Ext w w' := by
  refine ⟨fun i v hv => h.cell ((Ext.alloc _ _).cell (cell_box w c1 t1 i hv)), fun i => ?_, fun i v hv => ?_, fun i => ?_, ((Ext.alloc _ _).trans (Ext.alloc _ _)).trans h⟩
  · rw [Below.frozen ((Ext.alloc _ _).trans h) (by simp)]; exact frozen_box w c1 t1 i
  · have := h.cell (cell_box (w.alloc (.cells c1 t1)) c2 t2 i hv)
    rw [sz1] at this
    exact this
  · have := frozen_box (w.alloc (.cells c1 t1)) c2 t2 i
    rw [sz1] at this
    rw [Below.frozen h (by rw [sz1, sz1]; simp)]
    exact this
theorem ext_set5 {w w' : World} (h : Ext w w') (b : Nat) (hb : w.heap.size ≤ b) (i0 i1 i2 i3 i4 : Nat) (v0 v1 v2 v3 v4 : Value) :
    Ext w (((((w'.setCell ⟨b, i0, none⟩ v0).setCell ⟨b, i1, none⟩ v1).setCell ⟨b, i2, none⟩ v2).setCell ⟨b, i3, none⟩ v3).setCell ⟨b, i4, none⟩ v4) :=
  ((((h.set hb v0).set hb v1).set hb v2).set hb v3).set hb v4

set_option maxHeartbeats 1000000 in
theorem taken_nil (w : World) : Calls Try.prog 30 #[nilV] w fun e w' => e = .returned nilV ∧ Ext w w' := by
  have H := hide (ok_nil)
  go_enter Try.func30, Try.ntmps30
  go_wp2_with (go_at_call 44; refine Calls.mono (unhide H _) ?_; rintro e w1 ⟨rfl, x1⟩; obtain ⟨c, f, d, g, x⟩ := two_box x1; have X1 := hide x; have c0 := c 0 _ rfl; have c1 := c 1 _ rfl; have c2 := c 2 _ rfl; have c3 := c 3 _ rfl; have c4 := c 4 _ rfl; have d0 := d 0 _ rfl; have d1 := d 1 _ rfl; have d2 := d 2 _ rfl; have d3 := d 3 _ rfl; have d4 := d 4 _ rfl; clear x1 c d x)
  exact bodyPost_ret (v := nilV) (by simp [results, Try.results30, go_sem, d0, d1, d2, d3, d4]) rfl ⟨rfl, ext_set5 (unhide X1) _ (by omega) _ _ _ _ _ _ _ _ _ _⟩
set_option maxHeartbeats 1000000 in
theorem copied_nil (w : World) : Calls Try.prog 29 #[nilV] w fun e w' => e = .returned nilV ∧ Ext w w' := by
  have H := hide (nil_w)
  go_enter Try.func29, Try.ntmps29
  go_wp2_with (go_at_call 43; refine Calls.mono (unhide H _) ?_; rintro e w1 ⟨rfl, x1⟩; obtain ⟨c, f, d, g, x⟩ := two_box x1; have X1 := hide x; have d0 := d 0 _ rfl; have d1 := d 1 _ rfl; have d2 := d 2 _ rfl; have d3 := d 3 _ rfl; have d4 := d 4 _ rfl; clear x1 c d x)
  exact bodyPost_ret (v := nilV) (by simp [results, Try.results29, go_sem, d0, d1, d2, d3, d4]) rfl ⟨rfl, ext_set5 (unhide X1) _ (by omega) _ _ _ _ _ _ _ _ _ _⟩
set_option maxHeartbeats 1000000 in
theorem copy_nil (w : World) : Calls Try.prog 16 #[nilV] w fun e w' => e = .returned nilV ∧ Ext w w' := by
  have HT := hide (taken_nil)
  have HC := hide (copied_nil)
  go_enter Try.func16, Try.ntmps16
  go_wp2_with (first | (go_at_call 30; refine Calls.mono (unhide HT _) ?_; rintro e w1 ⟨rfl, x1⟩; have X1 := hide x1; clear x1) | (go_at_call 29; refine Calls.mono (unhide HC _) ?_; rintro e w2 ⟨rfl, x2⟩; obtain ⟨c, f, d, g, x⟩ := two_box ((unhide X1).trans x2); have X2 := hide x; have d0 := d 0 _ rfl; have d1 := d 1 _ rfl; have d2 := d 2 _ rfl; have d3 := d 3 _ rfl; have d4 := d 4 _ rfl; clear x2 c d x))
  exact bodyPost_ret (v := nilV) (by simp [results, Try.results16, go_sem, d0, d1, d2, d3, d4]) rfl ⟨rfl, ext_set5 (unhide X2) _ (by omega) _ _ _ _ _ _ _ _ _ _⟩

theorem eqI_nil (w : World) : (binOp BinOp.eql 30 (.slice none 0 0) (.slice none 0 0)).run Try.prog w = .ok (.bool true) w := by kernel_rfl
theorem eqO_nil (w : World) : (binOp BinOp.eql 33 (.slice none 0 0) (.slice none 0 0)).run Try.prog w = .ok (.bool true) w := by kernel_rfl
theorem eqO_some (b : Addr) (n c : Nat) (w : World) : (binOp BinOp.eql 33 (.slice (some b) n c) (.slice none 0 0)).run Try.prog w = .ok (.bool false) w := by kernel_rfl
theorem eqB_some (b : Addr) (n c : Nat) (w : World) : (binOp BinOp.eql 22 (.slice (some b) n c) (.slice none 0 0)).run Try.prog w = .ok (.bool false) w := by kernel_rfl
/-- A list that is nil, copied. -/
theorem cloneI_nil (w : World) : Calls Try.prog 17 #[.slice none 0 0] w fun e w' => e = .returned (.slice none 0 0) ∧ w' = w := by
  have e0 := eqI_nil
  go_enter Try.func17, Try.ntmps17
  go_wp2_with fail
  go_ret
  exact ⟨rfl, rfl⟩
theorem cloneO_nil (w : World) : Calls Try.prog 15 #[.slice none 0 0] w fun e w' => e = .returned (.slice none 0 0) ∧ w' = w := by
  have e0 := eqO_nil
  go_enter Try.func15, Try.ntmps15
  go_wp2_with fail
  go_ret
  exact ⟨rfl, rfl⟩
theorem k_infoO : ∃ i0, Try.prog.info? 32 = some i0 ∧ i0.zero = some (.agg #[.int .i64 0, .int .i64 0, .int .i64 0, .int .i64 0, .int .i64 0, .int .i64 0, .int .i64 0, .int .i64 0, .complex .f64 0 0, .string ⟨#[]⟩, .slice none 0 0, .slice none 0 0]) ∧ i0.size = 12 ∧ i0.bytes = 144 := by
  have h : (Try.prog.info? 32).map (fun i => (i.zero, i.size, i.bytes)) = some (some (.agg #[.int .i64 0, .int .i64 0, .int .i64 0, .int .i64 0, .int .i64 0, .int .i64 0, .int .i64 0, .int .i64 0, .complex .f64 0 0, .string ⟨#[]⟩, .slice none 0 0, .slice none 0 0]), 12, 144) := by kernel_rfl
  cases hi : Try.prog.info? 32 with
  | none => rw [hi] at h; cases h
  | some i =>
    rw [hi] at h
    simp at h
    exact ⟨i, rfl, h.1, h.2.1, h.2.2⟩
theorem k_infoK : ∃ i0, Try.prog.info? 37 = some i0 ∧ i0.zero = some (.agg #[.slice none 0 0, .int .i64 0, .int .i64 0, .int .i64 0, .int .i64 0]) ∧ i0.size = 5 ∧ i0.bytes = 56 := by
  have h : (Try.prog.info? 37).map (fun i => (i.zero, i.size, i.bytes)) = some (some (.agg #[.slice none 0 0, .int .i64 0, .int .i64 0, .int .i64 0, .int .i64 0]), 5, 56) := by kernel_rfl
  cases hi : Try.prog.info? 37 with
  | none => rw [hi] at h; cases h
  | some i =>
    rw [hi] at h
    simp at h
    exact ⟨i, rfl, h.1, h.2.1, h.2.2⟩
theorem own_empty (w : World) (t : TypeId) (size : Nat) : (w.alloc (.cells #[] t)).ownsRow w.heap.size t size (.slice (some ⟨w.heap.size, 0, none⟩) 0 0) 0 [] :=
  World.ownsRow_made w #[] 0 (Nat.le_refl _) (Nat.zero_le _) (by simp)

set_option maxHeartbeats 1000000 in
/-- A row of outputs, copied. -/
theorem cloneO_w (d : Option Addr × Nat) (n : Nat) (w : World) (hn : 0 < n) (hn2 : n ≤ 1000000) (hr : RepO w (In w) d n) : Calls Try.prog 15 #[.slice d.1 n d.2] w fun e w' => ∃ g cap, e = .returned (.slice (some ⟨g, 0, none⟩) n cap) ∧ w.heap.size ≤ g ∧ w'.ownsRow w.heap.size 32 12 (.slice (some ⟨g, 0, none⟩) n cap) n (outs n) ∧ Ext w w' := by
  obtain ⟨i0, hi, hz0, hz1, hz2⟩ := k_infoO
  have HI := hide hi
  have Z0 := hide hz0
  have Z1 := hide hz1
  have Z2 := hide hz2
  clear hi hz0 hz1 hz2
  obtain ⟨d1, c⟩ := d
  rcases hr with h0 | ⟨_, b, o, hd, hb, hc⟩
  · omega
  simp only at hd
  subst hd
  have e0 := eqO_some ⟨b, o, none⟩ n c
  have HO := hide (own_empty w 32 12)
  have HC : Hd (∀ (ob : Obj) j u, (outs n)[j]? = some u → (w.alloc ob).cell? ((⟨b, o, none⟩ : Addr).add j) = some u) := fun ob j u hj => by
    have := (Ext.alloc w ob).cell (hc j u hj)
    rw [show (⟨b, o, none⟩ : Addr).add j = ⟨b, o + j, none⟩ by simp [Addr.add]]
    exact this
  clear hc
  go_enter Try.func15, Try.ntmps15
  go_wp2_with (at_builtin; refine kapp_list rfl (.tmp 5) (.tmp 6) 33 rfl w.heap.size 32 i0 (.agg #[.int .i64 0, .int .i64 0, .int .i64 0, .int .i64 0, .int .i64 0, .int .i64 0, .int .i64 0, .int .i64 0, .complex .f64 0 0, .string ⟨#[]⟩, .slice none 0 0, .slice none 0 0]) 12 144 Try.underlying33 (unhide HI) (unhide Z0) (unhide Z1) (unhide Z2) rfl (by decide) (some ⟨w.heap.size, 0, none⟩) 0 0 [] rfl (unhide HO) ⟨b, o, none⟩ n c (outs n) rfl hn (outs_len n) (unhide HC _) (one_out n) ?c1 ?c2 ?c3 ?_)
  case c1 => unfold maxLen; omega
  case c2 => omega
  case c3 => rw [sz1]; omega
  intro g' cap' w3 ho hgr hw
  have hg : w.heap.size ≤ g' := by
    rcases hw with hw | hw
    · simp only [Value.ownBlock, Option.some.injEq] at hw; omega
    · first | omega | (rw [sz1] at hw; omega)
  have S : Hd (w3.ownsRow w.heap.size 32 12 (.slice (some ⟨g', 0, none⟩) n cap') n (outs n)) := by
    unfold Hd; simpa using ho
  have X : Hd (Ext w w3) := Below.grown (Ext.alloc w _) hgr (Nat.le_of_lt (by rw [sz1]; omega)) (fun j hj => by simp only [Value.ownBlock, Option.some.injEq] at hj; omega)
  clear ho hgr hw
  go_wp2_with fail
  go_ret
  exact ⟨g', cap', by simp, hg, unhide S, unhide X⟩

set_option maxHeartbeats 1000000 in
/-- A row of blocks, copied. -/
theorem cloneB_w (a : Option Addr) (l : List RB) (ads : List (Option Addr × Nat)) (c : Nat) (w : World) (hn : 0 < l.length) (hn2 : l.length ≤ 1000000) (hr : RepB w (In w) a l ads) : Calls Try.prog 14 #[.slice a l.length c] w fun e w' => ∃ g cap, e = .returned (.slice (some ⟨g, 0, none⟩) l.length cap) ∧ w.heap.size ≤ g ∧ w'.ownsRow w.heap.size 37 5 (.slice (some ⟨g, 0, none⟩) l.length cap) l.length (bC l ads) ∧ Ext w w' := by
  obtain ⟨i0, hi, hz0, hz1, hz2⟩ := k_infoK
  have HI := hide hi
  have Z0 := hide hz0
  have Z1 := hide hz1
  have Z2 := hide hz2
  clear hi hz0 hz1 hz2
  have HL := hide (bC_len l ads hr.len)
  rcases hr.row with h0 | ⟨b, o, rfl, hb, hc⟩
  · rw [h0] at hn; simp at hn
  have e0 := eqB_some ⟨b, o, none⟩ l.length c
  have HO := hide (own_empty w 37 5)
  have HC : Hd (∀ (ob : Obj) j u, (bC l ads)[j]? = some u → (w.alloc ob).cell? ((⟨b, o, none⟩ : Addr).add j) = some u) := fun ob j u hj => by
    have := (Ext.alloc w ob).cell (hc j u hj)
    rw [show (⟨b, o, none⟩ : Addr).add j = ⟨b, o + j, none⟩ by simp [Addr.add]]
    exact this
  clear hc hr
  generalize l.length = n at *
  go_enter Try.func14, Try.ntmps14
  go_wp2_with (at_builtin; refine kapp_list rfl (.tmp 5) (.tmp 6) 22 rfl w.heap.size 37 i0 (.agg #[.slice none 0 0, .int .i64 0, .int .i64 0, .int .i64 0, .int .i64 0]) 5 56 Try.underlying22 (unhide HI) (unhide Z0) (unhide Z1) (unhide Z2) rfl (by decide) (some ⟨w.heap.size, 0, none⟩) 0 0 [] rfl (unhide HO) ⟨b, o, none⟩ n c (bC l ads) rfl hn (unhide HL) (unhide HC _) (one_bC l ads) ?c1 ?c2 ?c3 ?_)
  case c1 => unfold maxLen; omega
  case c2 => omega
  case c3 => rw [sz1]; omega
  intro g' cap' w3 ho hgr hw
  have hg : w.heap.size ≤ g' := by
    rcases hw with hw | hw
    · simp only [Value.ownBlock, Option.some.injEq] at hw; omega
    · first | omega | (rw [sz1] at hw; omega)
  have S : Hd (w3.ownsRow w.heap.size 37 5 (.slice (some ⟨g', 0, none⟩) n cap') n (bC l ads)) := by
    unfold Hd; simpa using ho
  have X : Hd (Ext w w3) := Below.grown (Ext.alloc w _) hgr (Nat.le_of_lt (by rw [sz1]; omega)) (fun j hj => by simp only [Value.ownBlock, Option.some.injEq] at hj; omega)
  clear ho hgr hw
  go_wp2_with fail
  go_ret
  exact ⟨g', cap', by simp, hg, unhide S, unhide X⟩

end Go.Proofs.Ytdnhekgbfhlhoaa
