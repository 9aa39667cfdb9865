/- Two functions of one block of two outputs are the same. -/
import Derived.Test.YtdnhekgbfhlhoaaThR
set_option linter.unusedSimpArgs false
set_option linter.unusedVariables false
set_option maxRecDepth 10000
namespace Go.Proofs.Ytdnhekgbfhlhoaa
open Go.RowKit

set_option maxHeartbeats 1000000 in
theorem sameV_w (w : World) : Calls Try.prog 26 #[nilV, nilV] w fun e w' => e = .returned (.bool true) ∧ Ext w w' := by
  go_enter Try.func26, Try.ntmps26
  go_wp2_with fail
  go_loopw [5] (fun t wr => t = .int .i64 0 ∧ wr = (w.alloc (.cells #[.int .i64 0, .int .i64 0, .complex .f64 0 0, .string ⟨#[]⟩, .slice none 0 0] 29)).alloc (.cells #[.int .i64 0, .int .i64 0, .complex .f64 0 0, .string ⟨#[]⟩, .slice none 0 0] 29)) (fun _ _ => 0)
  case atStart => exact ⟨rfl, rfl⟩
  case round =>
    obtain ⟨rfl, rfl⟩ := hrel
    go_wp2_with fail
    go_ret
    exact ⟨rfl, ext2 _ _⟩
set_option maxHeartbeats 1000000 in
theorem sameZ_w (w : World) : Calls Try.prog 27 #[.slice none 0 0, .slice none 0 0] w fun e w' => e = .returned (.bool true) ∧ w' = w := by
  go_enter Try.func27, Try.ntmps27
  go_wp2_with fail
  go_loopw [5] (fun t wr => t = .int .i64 0 ∧ wr = w) (fun _ _ => 0)
  case atStart => exact ⟨rfl, rfl⟩
  case round =>
    obtain ⟨rfl, rfl⟩ := hrel
    go_wp2_with fail
    go_ret
    exact ⟨rfl, rfl⟩
set_option maxHeartbeats 4000000 in
theorem sameIns_w (w : World) : Calls Try.prog 12 #[outV, outV] w fun e w' => e = .returned (.bool true) ∧ Ext w w' := by
  have HV := hide sameV_w
  have HZ := hide sameZ_w
  go_enter Try.func12, Try.ntmps12
  go_wp2_with (first
    | (go_at_call 26; refine Calls.mono (unhide HV _) ?_; rintro e w1 ⟨rfl, x1⟩; have tb := two_box x1; have c11 : w1.cell? ⟨w.heap.size, 11, none⟩ = some (.slice none 0 0) := tb.1 11 _ rfl; have d11 : w1.cell? ⟨w.heap.size + 1, 11, none⟩ = some (.slice none 0 0) := tb.2.2.1 11 _ rfl; have X1 := hide tb.2.2.2.2; clear x1 tb)
    | (go_at_call 27; refine Calls.mono (unhide HZ _) ?_; rintro e w2 ⟨rfl, hw⟩; obtain rfl := hw.symm; clear hw))
  go_ret
  exact ⟨retB (by first | rfl | simp | decide), unhide X1⟩

/-- Four boxes. -/
theorem four_box (w : World) (a b c d : Array Value) (t1 t2 t3 t4 : TypeId) :
    (∀ (i : Nat) (v : Value), a[i]? = some v → ((((w.alloc (.cells a t1)).alloc (.cells b t2)).alloc (.cells c t3)).alloc (.cells d t4)).drew.cell? ⟨w.heap.size, i, none⟩ = some v) ∧
    (∀ (i : Nat) (v : Value), c[i]? = some v → ((((w.alloc (.cells a t1)).alloc (.cells b t2)).alloc (.cells c t3)).alloc (.cells d t4)).drew.cell? ⟨w.heap.size + 1 + 1, i, none⟩ = some v) ∧
    (∀ (i : Nat) (v : Value), d[i]? = some v → ((((w.alloc (.cells a t1)).alloc (.cells b t2)).alloc (.cells c t3)).alloc (.cells d t4)).drew.cell? ⟨w.heap.size + 1 + 1 + 1, i, none⟩ = some v) ∧
    Ext w ((((w.alloc (.cells a t1)).alloc (.cells b t2)).alloc (.cells c t3)).alloc (.cells d t4)).drew := by
  refine ⟨fun i v hv => (((Ext.alloc _ _).trans (Ext.alloc _ _)).trans (Ext.drew (Ext.alloc _ _))).cell (cell_box w a t1 i hv), fun i v hv => ?_, fun i v hv => ?_, (ext2 _ _).trans (Ext.drew (ext2 _ _))⟩
  · have := (Ext.drew (Ext.alloc _ (.cells d t4))).cell (cell_box ((w.alloc (.cells a t1)).alloc (.cells b t2)) c t3 i hv)
    rw [sz1, sz1] at this
    exact this
  · have := cell_box (((w.alloc (.cells a t1)).alloc (.cells b t2)).alloc (.cells c t3)) d t4 i hv
    rw [sz1, sz1, sz1] at this
    exact this
set_option maxHeartbeats 4000000 in
theorem sameFn_w (a b : Option Addr) (ac bc : Nat) (aa ba : List (Option Addr × Nat)) (w : World) (ha : RepB w (In w) a [⟨2, ⟨3, 0, 0, 0⟩⟩] aa) (hb : RepB w (In w) b [⟨2, ⟨3, 0, 0, 0⟩⟩] ba) :
    Calls Try.prog 6 #[rfV ⟨#[]⟩ 1 1 a 1 ac, rfV ⟨#[]⟩ 1 1 b 1 bc] w fun e w' => e = .returned (.bool true) ∧ Ext w w' := by
  have HI := hide sameIns_w
  obtain ⟨ga, oa, da, rfl, _, hda, ca0, ca1, ca2, ca3, ca4, ra⟩ := ha.at (i := 0) rfl
  obtain ⟨gb, ob, db, rfl, _, hdb, cb0, cb1, cb2, cb3, cb4, rb⟩ := hb.at (i := 0) rfl
  rcases ra with ⟨h, _⟩ | ⟨_, qa, pa, ea, _, ra⟩
  · exact absurd h (by decide)
  rcases rb with ⟨h, _⟩ | ⟨_, qb, pb, eb, _, rb⟩
  · exact absurd h (by decide)
  obtain ⟨da1, da2⟩ := da
  obtain ⟨db1, db2⟩ := db
  simp only at ea eb
  subst ea eb
  simp only [Nat.zero_mul, Nat.add_zero] at ca0 ca1 ca2 ca3 ca4 cb0 cb1 cb2 cb3 cb4
  have Q1 := fun o1 o2 => (ext2 (w := w) o1 o2).cell ca0
  have Q1b := fun o1 o2 o3 => ((ext2 (w := w) o1 o2).trans (Ext.alloc _ o3)).cell ca0
  have Q1c := fun o1 o2 o3 o4 => ((ext2 (w := w) o1 o2).trans (ext2 o3 o4)).cell ca0
  have Q2 := fun o1 o2 => (ext2 (w := w) o1 o2).cell ca1
  have Q2b := fun o1 o2 o3 => ((ext2 (w := w) o1 o2).trans (Ext.alloc _ o3)).cell ca1
  have Q2c := fun o1 o2 o3 o4 => ((ext2 (w := w) o1 o2).trans (ext2 o3 o4)).cell ca1
  have Q3 := fun o1 o2 => (ext2 (w := w) o1 o2).cell ca2
  have Q3b := fun o1 o2 o3 => ((ext2 (w := w) o1 o2).trans (Ext.alloc _ o3)).cell ca2
  have Q3c := fun o1 o2 o3 o4 => ((ext2 (w := w) o1 o2).trans (ext2 o3 o4)).cell ca2
  have Q4 := fun o1 o2 => (ext2 (w := w) o1 o2).cell ca3
  have Q4b := fun o1 o2 o3 => ((ext2 (w := w) o1 o2).trans (Ext.alloc _ o3)).cell ca3
  have Q4c := fun o1 o2 o3 o4 => ((ext2 (w := w) o1 o2).trans (ext2 o3 o4)).cell ca3
  have Q5 := fun o1 o2 => (ext2 (w := w) o1 o2).cell ca4
  have Q5b := fun o1 o2 o3 => ((ext2 (w := w) o1 o2).trans (Ext.alloc _ o3)).cell ca4
  have Q5c := fun o1 o2 o3 o4 => ((ext2 (w := w) o1 o2).trans (ext2 o3 o4)).cell ca4
  have P1 := fun o1 o2 => (ext2 (w := w) o1 o2).cell cb0
  have P1b := fun o1 o2 o3 => ((ext2 (w := w) o1 o2).trans (Ext.alloc _ o3)).cell cb0
  have P1c := fun o1 o2 o3 o4 => ((ext2 (w := w) o1 o2).trans (ext2 o3 o4)).cell cb0
  have P2 := fun o1 o2 => (ext2 (w := w) o1 o2).cell cb1
  have P2b := fun o1 o2 o3 => ((ext2 (w := w) o1 o2).trans (Ext.alloc _ o3)).cell cb1
  have P2c := fun o1 o2 o3 o4 => ((ext2 (w := w) o1 o2).trans (ext2 o3 o4)).cell cb1
  have P3 := fun o1 o2 => (ext2 (w := w) o1 o2).cell cb2
  have P3b := fun o1 o2 o3 => ((ext2 (w := w) o1 o2).trans (Ext.alloc _ o3)).cell cb2
  have P3c := fun o1 o2 o3 o4 => ((ext2 (w := w) o1 o2).trans (ext2 o3 o4)).cell cb2
  have P4 := fun o1 o2 => (ext2 (w := w) o1 o2).cell cb3
  have P4b := fun o1 o2 o3 => ((ext2 (w := w) o1 o2).trans (Ext.alloc _ o3)).cell cb3
  have P4c := fun o1 o2 o3 o4 => ((ext2 (w := w) o1 o2).trans (ext2 o3 o4)).cell cb3
  have P5 := fun o1 o2 => (ext2 (w := w) o1 o2).cell cb4
  have P5b := fun o1 o2 o3 => ((ext2 (w := w) o1 o2).trans (Ext.alloc _ o3)).cell cb4
  have P5c := fun o1 o2 o3 o4 => ((ext2 (w := w) o1 o2).trans (ext2 o3 o4)).cell cb4
  have HA := hide ra
  have HB := hide rb
  clear ca0 ca1 ca2 ca3 ca4 cb0 cb1 cb2 cb3 cb4 ha hb ra rb hda hdb
  go_enter Try.func6, Try.ntmps6
  go_wp2_with fail
  go_loopw [5] (fun t wr => (t = .int .i64 0 ∧ wr = (w.alloc (.cells #[.string ⟨#[]⟩, .int .i64 1, .int .i64 1, .slice (some ⟨ga, oa, none⟩) 1 ac] 24)).alloc (.cells #[.string ⟨#[]⟩, .int .i64 1, .int .i64 1, .slice (some ⟨gb, ob, none⟩) 1 bc] 24)) ∨ (t = .int .i64 1 ∧ wr.cell? ⟨w.heap.size, 3, none⟩ = some (.slice (some ⟨ga, oa, none⟩) 1 ac) ∧ Hd (Ext w wr))) (fun t _ => 1 - (intOf t).toNat)
  case atStart => exact Or.inl ⟨rfl, rfl⟩
  case round =>
    rcases hrel with ⟨rfl, rfl⟩ | ⟨rfl, c3, hX⟩
    · go_wp2_with fail
      go_region
      · go_wp2_with fail
        clear Q1 Q1b Q1c Q2 Q2b Q2c Q3 Q3b Q3c Q4 Q4b Q4c Q5 Q5b Q5c P1 P1b P1c P2 P2b P2c P3 P3b P3c P4 P4b P4c P5 P5b P5c
        go_loopw [8] (fun t wq => ∃ k : Nat, t = .int .i64 (k : Int) ∧ k ≤ 2 ∧ wq.cell? ⟨w.heap.size + 1 + 1, 0, none⟩ = some (.slice (some ⟨qa, pa, none⟩) 2 da2) ∧ wq.cell? ⟨w.heap.size + 1 + 1 + 1, 0, none⟩ = some (.slice (some ⟨qb, pb, none⟩) 2 db2) ∧ wq.cell? ⟨w.heap.size, 3, none⟩ = some (.slice (some ⟨ga, oa, none⟩) 1 ac) ∧ Hd (Ext w wq)) (fun t _ => 2 - (intOf t).toNat)
        case atStart => exact ⟨0, rfl, by omega, (four_box w _ _ _ _ _ _ _ _).2.1 0 _ rfl, (four_box w _ _ _ _ _ _ _ _).2.2.1 0 _ rfl, (four_box w _ _ _ _ _ _ _ _).1 3 _ rfl, (four_box w _ _ _ _ _ _ _ _).2.2.2⟩
        case round =>
          obtain ⟨k, rfl, hk, k6, k7, k3, hX⟩ := hrel
          by_cases hkm : k < 2
          · have hza := fun (j : Nat) (v : Value) (hj : j < 12) (hv : outC[j]? = some v) => (unhide hX).cell (unhide HA (k * 12 + j) v (by rw [outs_at 2 k j hkm hj]; exact hv))
            have hzb := fun (j : Nat) (v : Value) (hj : j < 12) (hv : outC[j]? = some v) => (unhide hX).cell (unhide HB (k * 12 + j) v (by rw [outs_at 2 k j hkm hj]; exact hv))
            have ya0 : wr.cell? ⟨qa, pa + k * 12, none⟩ = some (.int .i64 6) := by have := hza 0 _ (by omega) rfl; rwa [← Nat.add_assoc] at this
            have yb0 : wr.cell? ⟨qb, pb + k * 12, none⟩ = some (.int .i64 6) := by have := hzb 0 _ (by omega) rfl; rwa [← Nat.add_assoc] at this
            have ya1 : wr.cell? ⟨qa, pa + k * 12 + 1, none⟩ = some (.int .i64 0) := by have := hza 1 _ (by omega) rfl; rwa [← Nat.add_assoc] at this
            have yb1 : wr.cell? ⟨qb, pb + k * 12 + 1, none⟩ = some (.int .i64 0) := by have := hzb 1 _ (by omega) rfl; rwa [← Nat.add_assoc] at this
            have ya2 : wr.cell? ⟨qa, pa + k * 12 + 2, none⟩ = some (.int .i64 0) := by have := hza 2 _ (by omega) rfl; rwa [← Nat.add_assoc] at this
            have yb2 : wr.cell? ⟨qb, pb + k * 12 + 2, none⟩ = some (.int .i64 0) := by have := hzb 2 _ (by omega) rfl; rwa [← Nat.add_assoc] at this
            have ya3 : wr.cell? ⟨qa, pa + k * 12 + 3, none⟩ = some (.int .i64 0) := by have := hza 3 _ (by omega) rfl; rwa [← Nat.add_assoc] at this
            have yb3 : wr.cell? ⟨qb, pb + k * 12 + 3, none⟩ = some (.int .i64 0) := by have := hzb 3 _ (by omega) rfl; rwa [← Nat.add_assoc] at this
            have ya4 : wr.cell? ⟨qa, pa + k * 12 + 4, none⟩ = some (.int .i64 0) := by have := hza 4 _ (by omega) rfl; rwa [← Nat.add_assoc] at this
            have yb4 : wr.cell? ⟨qb, pb + k * 12 + 4, none⟩ = some (.int .i64 0) := by have := hzb 4 _ (by omega) rfl; rwa [← Nat.add_assoc] at this
            have ya5 : wr.cell? ⟨qa, pa + k * 12 + 5, none⟩ = some (.int .i64 0) := by have := hza 5 _ (by omega) rfl; rwa [← Nat.add_assoc] at this
            have yb5 : wr.cell? ⟨qb, pb + k * 12 + 5, none⟩ = some (.int .i64 0) := by have := hzb 5 _ (by omega) rfl; rwa [← Nat.add_assoc] at this
            have ya6 : wr.cell? ⟨qa, pa + k * 12 + 6, none⟩ = some (.int .i64 0) := by have := hza 6 _ (by omega) rfl; rwa [← Nat.add_assoc] at this
            have yb6 : wr.cell? ⟨qb, pb + k * 12 + 6, none⟩ = some (.int .i64 0) := by have := hzb 6 _ (by omega) rfl; rwa [← Nat.add_assoc] at this
            have ya7 : wr.cell? ⟨qa, pa + k * 12 + 7, none⟩ = some (.int .i64 0) := by have := hza 7 _ (by omega) rfl; rwa [← Nat.add_assoc] at this
            have yb7 : wr.cell? ⟨qb, pb + k * 12 + 7, none⟩ = some (.int .i64 0) := by have := hzb 7 _ (by omega) rfl; rwa [← Nat.add_assoc] at this
            have ya8 : wr.cell? ⟨qa, pa + k * 12 + 8, none⟩ = some (.complex .f64 0 0) := by have := hza 8 _ (by omega) rfl; rwa [← Nat.add_assoc] at this
            have yb8 : wr.cell? ⟨qb, pb + k * 12 + 8, none⟩ = some (.complex .f64 0 0) := by have := hzb 8 _ (by omega) rfl; rwa [← Nat.add_assoc] at this
            have ya9 : wr.cell? ⟨qa, pa + k * 12 + 9, none⟩ = some (.string ⟨#[]⟩) := by have := hza 9 _ (by omega) rfl; rwa [← Nat.add_assoc] at this
            have yb9 : wr.cell? ⟨qb, pb + k * 12 + 9, none⟩ = some (.string ⟨#[]⟩) := by have := hzb 9 _ (by omega) rfl; rwa [← Nat.add_assoc] at this
            have ya10 : wr.cell? ⟨qa, pa + k * 12 + 10, none⟩ = some (.slice none 0 0) := by have := hza 10 _ (by omega) rfl; rwa [← Nat.add_assoc] at this
            have yb10 : wr.cell? ⟨qb, pb + k * 12 + 10, none⟩ = some (.slice none 0 0) := by have := hzb 10 _ (by omega) rfl; rwa [← Nat.add_assoc] at this
            have ya11 : wr.cell? ⟨qa, pa + k * 12 + 11, none⟩ = some (.slice none 0 0) := by have := hza 11 _ (by omega) rfl; rwa [← Nat.add_assoc] at this
            have yb11 : wr.cell? ⟨qb, pb + k * 12 + 11, none⟩ = some (.slice none 0 0) := by have := hzb 11 _ (by omega) rfl; rwa [← Nat.add_assoc] at this
            have hkm2 : (k : Int) < 2 := by omega
            clear hza hzb
            go_wp2_with fail
            go_region_with (go_at_call 12; refine Calls.mono (unhide HI _) ?_; rintro e w6 ⟨rfl, x6⟩; have x6 : Ext wr w6 := (Ext.drew (Ext.refl _)).trans x6; have k6 := x6.cell k6; have k7 := x6.cell k7; have k3 := x6.cell k3; have X6 := hide ((unhide hX).trans x6); clear x6)
            all_goals
              go_wp2_with fail
              exact ⟨⟨k + 1, by first | rfl | go_num, by omega, k6, k7, k3, X6⟩, by simp [intOf]; omega⟩
          · obtain rfl : k = 2 := by omega
            go_wp2_with fail
            exact ⟨Or.inr ⟨rfl, k3, hX⟩, by decide⟩
      · go_wp2_with fail
        clear Q1 Q1b Q1c Q2 Q2b Q2c Q3 Q3b Q3c Q4 Q4b Q4c Q5 Q5b Q5c P1 P1b P1c P2 P2b P2c P3 P3b P3c P4 P4b P4c P5 P5b P5c
        go_loopw [8] (fun t wq => ∃ k : Nat, t = .int .i64 (k : Int) ∧ k ≤ 2 ∧ wq.cell? ⟨w.heap.size + 1 + 1 + 1, 0, none⟩ = some (.slice (some ⟨qa, pa, none⟩) 2 da2) ∧ wq.cell? ⟨w.heap.size + 1 + 1, 0, none⟩ = some (.slice (some ⟨qb, pb, none⟩) 2 db2) ∧ wq.cell? ⟨w.heap.size, 3, none⟩ = some (.slice (some ⟨ga, oa, none⟩) 1 ac) ∧ Hd (Ext w wq)) (fun t _ => 2 - (intOf t).toNat)
        case atStart => exact ⟨0, rfl, by omega, (four_box w _ _ _ _ _ _ _ _).2.2.1 0 _ rfl, (four_box w _ _ _ _ _ _ _ _).2.1 0 _ rfl, (four_box w _ _ _ _ _ _ _ _).1 3 _ rfl, (four_box w _ _ _ _ _ _ _ _).2.2.2⟩
        case round =>
          obtain ⟨k, rfl, hk, k6, k7, k3, hX⟩ := hrel
          by_cases hkm : k < 2
          · have hza := fun (j : Nat) (v : Value) (hj : j < 12) (hv : outC[j]? = some v) => (unhide hX).cell (unhide HA (k * 12 + j) v (by rw [outs_at 2 k j hkm hj]; exact hv))
            have hzb := fun (j : Nat) (v : Value) (hj : j < 12) (hv : outC[j]? = some v) => (unhide hX).cell (unhide HB (k * 12 + j) v (by rw [outs_at 2 k j hkm hj]; exact hv))
            have ya0 : wr.cell? ⟨qa, pa + k * 12, none⟩ = some (.int .i64 6) := by have := hza 0 _ (by omega) rfl; rwa [← Nat.add_assoc] at this
            have yb0 : wr.cell? ⟨qb, pb + k * 12, none⟩ = some (.int .i64 6) := by have := hzb 0 _ (by omega) rfl; rwa [← Nat.add_assoc] at this
            have ya1 : wr.cell? ⟨qa, pa + k * 12 + 1, none⟩ = some (.int .i64 0) := by have := hza 1 _ (by omega) rfl; rwa [← Nat.add_assoc] at this
            have yb1 : wr.cell? ⟨qb, pb + k * 12 + 1, none⟩ = some (.int .i64 0) := by have := hzb 1 _ (by omega) rfl; rwa [← Nat.add_assoc] at this
            have ya2 : wr.cell? ⟨qa, pa + k * 12 + 2, none⟩ = some (.int .i64 0) := by have := hza 2 _ (by omega) rfl; rwa [← Nat.add_assoc] at this
            have yb2 : wr.cell? ⟨qb, pb + k * 12 + 2, none⟩ = some (.int .i64 0) := by have := hzb 2 _ (by omega) rfl; rwa [← Nat.add_assoc] at this
            have ya3 : wr.cell? ⟨qa, pa + k * 12 + 3, none⟩ = some (.int .i64 0) := by have := hza 3 _ (by omega) rfl; rwa [← Nat.add_assoc] at this
            have yb3 : wr.cell? ⟨qb, pb + k * 12 + 3, none⟩ = some (.int .i64 0) := by have := hzb 3 _ (by omega) rfl; rwa [← Nat.add_assoc] at this
            have ya4 : wr.cell? ⟨qa, pa + k * 12 + 4, none⟩ = some (.int .i64 0) := by have := hza 4 _ (by omega) rfl; rwa [← Nat.add_assoc] at this
            have yb4 : wr.cell? ⟨qb, pb + k * 12 + 4, none⟩ = some (.int .i64 0) := by have := hzb 4 _ (by omega) rfl; rwa [← Nat.add_assoc] at this
            have ya5 : wr.cell? ⟨qa, pa + k * 12 + 5, none⟩ = some (.int .i64 0) := by have := hza 5 _ (by omega) rfl; rwa [← Nat.add_assoc] at this
            have yb5 : wr.cell? ⟨qb, pb + k * 12 + 5, none⟩ = some (.int .i64 0) := by have := hzb 5 _ (by omega) rfl; rwa [← Nat.add_assoc] at this
            have ya6 : wr.cell? ⟨qa, pa + k * 12 + 6, none⟩ = some (.int .i64 0) := by have := hza 6 _ (by omega) rfl; rwa [← Nat.add_assoc] at this
            have yb6 : wr.cell? ⟨qb, pb + k * 12 + 6, none⟩ = some (.int .i64 0) := by have := hzb 6 _ (by omega) rfl; rwa [← Nat.add_assoc] at this
            have ya7 : wr.cell? ⟨qa, pa + k * 12 + 7, none⟩ = some (.int .i64 0) := by have := hza 7 _ (by omega) rfl; rwa [← Nat.add_assoc] at this
            have yb7 : wr.cell? ⟨qb, pb + k * 12 + 7, none⟩ = some (.int .i64 0) := by have := hzb 7 _ (by omega) rfl; rwa [← Nat.add_assoc] at this
            have ya8 : wr.cell? ⟨qa, pa + k * 12 + 8, none⟩ = some (.complex .f64 0 0) := by have := hza 8 _ (by omega) rfl; rwa [← Nat.add_assoc] at this
            have yb8 : wr.cell? ⟨qb, pb + k * 12 + 8, none⟩ = some (.complex .f64 0 0) := by have := hzb 8 _ (by omega) rfl; rwa [← Nat.add_assoc] at this
            have ya9 : wr.cell? ⟨qa, pa + k * 12 + 9, none⟩ = some (.string ⟨#[]⟩) := by have := hza 9 _ (by omega) rfl; rwa [← Nat.add_assoc] at this
            have yb9 : wr.cell? ⟨qb, pb + k * 12 + 9, none⟩ = some (.string ⟨#[]⟩) := by have := hzb 9 _ (by omega) rfl; rwa [← Nat.add_assoc] at this
            have ya10 : wr.cell? ⟨qa, pa + k * 12 + 10, none⟩ = some (.slice none 0 0) := by have := hza 10 _ (by omega) rfl; rwa [← Nat.add_assoc] at this
            have yb10 : wr.cell? ⟨qb, pb + k * 12 + 10, none⟩ = some (.slice none 0 0) := by have := hzb 10 _ (by omega) rfl; rwa [← Nat.add_assoc] at this
            have ya11 : wr.cell? ⟨qa, pa + k * 12 + 11, none⟩ = some (.slice none 0 0) := by have := hza 11 _ (by omega) rfl; rwa [← Nat.add_assoc] at this
            have yb11 : wr.cell? ⟨qb, pb + k * 12 + 11, none⟩ = some (.slice none 0 0) := by have := hzb 11 _ (by omega) rfl; rwa [← Nat.add_assoc] at this
            have hkm2 : (k : Int) < 2 := by omega
            clear hza hzb
            go_wp2_with fail
            go_region_with (go_at_call 12; refine Calls.mono (unhide HI _) ?_; rintro e w6 ⟨rfl, x6⟩; have x6 : Ext wr w6 := (Ext.drew (Ext.refl _)).trans x6; have k6 := x6.cell k6; have k7 := x6.cell k7; have k3 := x6.cell k3; have X6 := hide ((unhide hX).trans x6); clear x6)
            all_goals
              go_wp2_with fail
              exact ⟨⟨k + 1, by first | rfl | go_num, by omega, k6, k7, k3, X6⟩, by simp [intOf]; omega⟩
          · obtain rfl : k = 2 := by omega
            go_wp2_with fail
            exact ⟨Or.inr ⟨rfl, k3, hX⟩, by decide⟩
    · go_wp2_with fail
      go_ret
      exact ⟨rfl, unhide hX⟩

end Go.Proofs.Ytdnhekgbfhlhoaa
