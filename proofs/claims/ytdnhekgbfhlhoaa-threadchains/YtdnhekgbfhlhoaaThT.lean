/- What is known of blocks that only lead on: newTrails. -/
import Derived.Test.YtdnhekgbfhlhoaaThA
set_option linter.unusedSimpArgs false
set_option linter.unusedVariables false
set_option maxRecDepth 10000
namespace Go.Proofs.Ytdnhekgbfhlhoaa
open Go.RowKit

/-- So many of n cells are laid. -/
def rpT (n k : Nat) : List Value := List.replicate k (Value.int .i64 (-2)) ++ List.replicate (n - k) (Value.int .i64 0)
theorem rpT_len (n k : Nat) (h : k ≤ n) : (rpT n k).length = n := by unfold rpT; rw [List.length_append, List.length_replicate, List.length_replicate]; omega
theorem rpT_splice (n k m : Nat) (h : k + m ≤ n) : splice (rpT n k) k (List.replicate m (Value.int .i64 (-2))) = rpT n (k + m) := by
  unfold splice rpT
  rw [List.take_append_of_le_length (by simp), List.take_of_length_le (by simp)]
  rw [List.length_replicate, List.drop_append, List.drop_of_length_le (by simp), List.nil_append, List.drop_replicate]
  rw [← List.append_assoc, List.replicate_append_replicate]
  simp
  omega
theorem rpT_full (n : Nat) : rpT n n = zs (List.replicate n (-2)) := by simp [rpT, zs]
theorem rpT_at (n k j : Nat) (h : j < k) : (rpT n k)[j]? = some (.int .i64 (-2)) := by
  unfold rpT
  rw [List.getElem?_append_left (by simpa using h)]
  simp [h]

set_option maxHeartbeats 2000000 in
theorem repeatT_w (n X : Nat) (w : World) (hn : n ≤ 1000000) (hX : w.cell? ⟨X, 0, none⟩ = some (.int .i64 (-2))) :
    Calls Try.prog 31 #[.slice (some ⟨X, 0, none⟩) 1 1, .int .i64 (n : Int)] w fun e w' => e = .returned (.slice (some ⟨w.heap.size, 0, none⟩) n n) ∧ Row w' w.heap.size 3 (zs (List.replicate n (-2))) ∧ Ext w w' := by
  have H := hide (mul_w n w hn)
  have hmk := make_nats n hn w
  have e0 : (ns (List.replicate n 0)) = rpT n 0 := by simp [rpT, ns]
  rw [e0] at hmk
  have R0 : Hd (Row (w.alloc (.cells (rpT n 0).toArray 3)) w.heap.size 3 (rpT n 0)) := Row.new _ _ _
  have hszB : (Try.prog.info? 3).map (·.size) = some 1 := by kernel_rfl
  have HSz := hide hszB
  have HX := hide hX
  clear hX hszB e0
  obtain ⟨c1, hc1⟩ : ∃ c1, c1 = List.replicate (min 1 n) (Value.int .i64 (-2)) := ⟨_, rfl⟩
  have HC1 := hide hc1
  have hcl : c1.length = min 1 n := by rw [hc1]; simp
  have HR1 : Hd (splice (rpT n 0) 0 c1 = rpT n (min 1 n)) := by
    have := rpT_splice n 0 (min 1 n) (by omega)
    rw [Nat.zero_add] at this
    unfold Hd
    rw [hc1]
    exact this
  have HL0 := hide (rpT_len n 0 (by omega))
  generalize rpT n 0 = r0 at *
  clear hc1
  go_enter Try.func31, Try.ntmps31
  go_wp2_with (first
    | (go_at_call 45; refine Calls.mono (unhide H) ?_; rintro e w1 ⟨rfl, hw⟩; rw [hw]; clear hw w1)
    | (refine wpList_copy_splice rfl (.tmp 31) (.tmp 32) 30 30 rfl 3 Try.underlying30 (unhide HSz) _ _ _ _ _ _ rfl rfl w.heap.size 0 r0 3 (unhide R0) c1 ?c1 ?c2 ?c3 ?c4 w.heap.size w (Ext.alloc _ _) (Nat.le_refl _) ?_))
  case c1 => rw [hcl]
  case c2 =>
    intro _
    intro j v hj
    rw [unhide HC1] at hj
    have hj2 := (List.getElem?_eq_some_iff.1 hj).1
    simp at hj2
    obtain rfl : j = 0 := by omega
    rw [List.getElem?_replicate] at hj
    split at hj
    · injection hj with hj
      subst hj
      exact (Ext.alloc _ _).cell (unhide HX)
    · omega
  case c3 => rw [hcl, unhide HL0]; omega
  case c4 =>
    intro v hv
    rw [unhide HC1] at hv
    obtain rfl := List.eq_of_mem_replicate hv
    rfl
  intro w2 hR2 hE2
  have R2 : Hd (Row w2 w.heap.size 3 (rpT n (min 1 n))) := by rw [← unhide HR1]; exact hR2.out
  have E2 : Hd (Ext w w2) := hE2
  clear hR2 hE2 HR1 hcl HC1 HL0 R0 hmk
  go_wp2_with fail
  go_loopw [8] (fun t wr => ∃ k : Nat, t = .int .i64 k ∧ k ≤ n ∧ (k = 0 → n = 0) ∧ Hd (Row wr w.heap.size 3 (rpT n k)) ∧ Hd (Ext w wr)) (fun t _ => n - (intOf t).toNat)
  case atStart => exact ⟨min 1 n, rfl, by omega, by omega, R2, E2⟩
  case round =>
    clear R2 E2
    obtain ⟨k, rfl, hk, hk0, hR, hE⟩ := hrel
    by_cases hlt : k < n
    · have hk1 : 0 < k := by omega
      obtain ⟨m, hm⟩ : ∃ m, m = min k (n - k) := ⟨_, rfl⟩
      have hm1 : 1 ≤ m := by omega
      have hm2 : k + m ≤ n := by omega
      obtain ⟨c2, hc2⟩ : ∃ c2, c2 = List.replicate (m) (Value.int .i64 (-2)) := ⟨_, rfl⟩
      have HC2 := hide hc2
      have hcl : c2.length = m := by rw [hc2]; simp
      have HR1 : Hd (splice (rpT n k) k c2 = rpT n (k + m)) := by
        unfold Hd
        rw [hc2]
        exact rpT_splice n k _ (by omega)
      have HL0 := hide (rpT_len n k hk)
      have HAt := hide (rpT_at n k)
      obtain ⟨r1, hr1⟩ : ∃ r1, r1 = rpT n k := ⟨_, rfl⟩
      rw [← hr1] at hR HL0 HR1 HAt
      clear hc2 hr1
      go_wp2_with fail
      have HP1 : Hd (∀ v ∈ c2, v.oneCell' = true) := by
        intro v hv
        rw [unhide HC2] at hv
        obtain rfl := List.eq_of_mem_replicate hv
        rfl
      have HP2 : Hd (∀ (j : Nat) (v : Value), c2[j]? = some v → wr.drew.cell? ((⟨w.heap.size, 0, none⟩ : Addr).add j) = some v) := by
        intro j v hj
        have hj2 := (List.getElem?_eq_some_iff.1 hj).1
        rw [unhide HC2, List.getElem?_replicate] at hj
        rw [k_add]
        show wr.cell? _ = _
        split at hj
        · injection hj with hj
          subst hj
          exact Row.cell (unhide hR) j (unhide HAt j (by omega))
        · cases hj
      have HP3 : Hd (c2.length = Nat.min k (n - k)) := by unfold Hd; rw [hcl, hm]
      have HP4 : Hd (k + c2.length ≤ r1.length) := by unfold Hd; rw [hcl, unhide HL0]; omega
      have HW : Hd (wr.drew.heap[w.heap.size]? = some (.cells r1.toArray 3 (0, 0))) := unhide hR
      have HB : Hd (Below w.heap.size w wr.drew) := Below.drew (unhide hE)
      have HWr : Hd (IntKind.i64.wrap ((k : Int) + (m : Int)) = ((k + m : Nat) : Int)) := by unfold Hd; rw [IntKind.wrap_i64]; omega
      clear hR hE HAt HL0 hm
      go_region_law (refine step_copy_splice rfl (.tmp 41) (.tmp 44) 30 30 rfl 3 Try.underlying30 (unhide HSz) (some ⟨w.heap.size, k, none⟩) (some ⟨w.heap.size, 0, none⟩) (n - k) (n - k) k n (by simp [Act.eval, Act.put]; try omega) (by simp [Act.eval, Act.put]; try omega) w.heap.size k r1 3 (unhide HW) c2 (unhide HP3) (fun _ => ⟨rfl, _, rfl, unhide HP2⟩) (unhide HP4) (unhide HP1) w.heap.size w (unhide HB) (Nat.le_refl _) ?_; intro w3 hR3 hE3)
      all_goals
        have R3 : Hd (Row w3 w.heap.size 3 (rpT n (k + m))) := by rw [← unhide HR1]; exact hR3.out
        have E3 : Hd (Ext w w3) := hE3
        clear hR3 hE3
        go_wp2_with fail
        go_roundw
        case rel => exact ⟨k + m, by rw [unhide HWr], by omega, by omega, R3⟩
        case measure => rw [unhide HWr]; simp [intOf]; omega
    · obtain rfl : k = n := by omega
      rw [rpT_full] at hR
      go_wp2_with fail
      go_ret
      exact ⟨rfl, unhide hR, unhide hE⟩


/-- The box B holds trails, whose Finals stand in the row N. -/
structure TrS (w : World) (B N : Nat) (ga : Option Addr) (gc n : Nat) (fin : List Int) : Prop where
  box : Row w B 69 [.slice ga n gc, .slice (some ⟨N, 0, none⟩) n n]
  row : Row w N 3 (zs fin)
  len : fin.length = n
theorem TrS.ne {w : World} {B N : Nat} {ga : Option Addr} {gc n : Nat} {fin : List Int} (h : TrS w B N ga gc n fin) : B ≠ N := by
  rintro rfl
  have h1 := h.box
  have h2 := h.row
  unfold Row at h1 h2
  rw [h1] at h2
  injection h2 with h2
  injection h2 with _ h2 _
  exact absurd h2 (by decide)
theorem TrS.on {w w' : World} {B N : Nat} {ga : Option Addr} {gc n : Nat} {fin : List Int} (h : TrS w B N ga gc n fin) (x : Ext w w') : TrS w' B N ga gc n fin := ⟨h.box.on x, h.row.on x, h.len⟩
theorem zs_at {l : List Int} {j : Nat} {x : Int} (h : l[j]? = some x) : (zs l)[j]? = some (.int .i64 x) := by simp [zs, h]
theorem zs_set (l : List Int) (j : Nat) (x : Int) : (zs l).set j (.int .i64 x) = zs (l.set j x) := by simp [zs, List.map_set]
theorem TrS.set {w : World} {B N : Nat} {ga : Option Addr} {gc n : Nat} {fin : List Int} (h : TrS w B N ga gc n fin) (i : Nat) (x : Int) : TrS (w.setCell ⟨N, i, none⟩ (.int .i64 x)) B N ga gc n (fin.set i x) := by
  refine ⟨h.box.other h.ne _ _, ?_, by rw [List.length_set]; exact h.len⟩
  have := h.row.set i (.int .i64 x)
  rw [zs_set] at this
  exact this
theorem TrS.at {w : World} {B N : Nat} {ga : Option Addr} {gc n : Nat} {fin : List Int} (h : TrS w B N ga gc n fin) : w.cell? ⟨B, 0, none⟩ = some (.slice ga n gc) ∧ w.cell? ⟨B, 1, none⟩ = some (.slice (some ⟨N, 0, none⟩) n n) ∧ (∀ j : Nat, w.frozen? ⟨N, j, none⟩ = false) ∧
    (∀ (j : Nat) (x : Int), fin[j]? = some x → w.cell? ⟨N, j, none⟩ = some (.int .i64 x)) :=
  ⟨h.box.cell 0 rfl, h.box.cell 1 rfl, fun j => k_rowF h.row j, fun j x hx => h.row.cell j (zs_at hx)⟩

set_option maxHeartbeats 1000000 in
theorem newTrails_w (ga : Option Addr) (n gc : Nat) (w : World) (hn : n ≤ 1000000) :
    Calls Try.prog 18 #[.slice ga n gc] w fun e w' => ∃ B N, e = .returned (.pointer (some ⟨B, 0, none⟩)) ∧ w.heap.size ≤ B ∧ w.heap.size ≤ N ∧ TrS w' B N ga gc n (List.replicate n (-2)) ∧ Ext w w' := by
  have H := hide (repeatT_w n w.heap.size (w.alloc (.cells #[.int .i64 (-2)] 3)) hn (cell_box w _ _ 0 rfl))
  go_enter Try.func18, Try.ntmps18
  go_wp2_with (go_at_call 31; refine Calls.mono (unhide H) ?_; rintro e w1 ⟨rfl, hR, hE⟩; rw [sz1] at hR; have R1 := hide hR; have E1 := hide ((Ext.alloc w _).trans hE); clear hR hE)
  go_ret
  have hR := unhide R1
  have hE := unhide E1
  refine ⟨w1.heap.size, w.heap.size + 1, rfl, hE.size, by omega, ⟨?_, ?_, by simp⟩, hE.trans (Ext.alloc _ _)⟩
  · have := Row.new w1 [.slice ga n gc, .slice (some ⟨w.heap.size + 1, 0, none⟩) n n] 69
    simpa using this
  · exact hR.on (Ext.alloc _ _)

set_option maxHeartbeats 1000000 in
theorem isNew_w (B N : Nat) (ga : Option Addr) (gc : Nat) (l : List RB) (ads : List (Option Addr × Nat)) (fin : List Int) (z : Int) (w : World) (hn : l.length ≤ 1000000) (hr : RepB w (In w) ga l ads) (hT : TrS w B N ga gc l.length fin) :
    Calls Try.prog 39 #[.pointer (some ⟨B, 0, none⟩), .int .i64 z] w fun e w' => e = .returned (.bool (match l[z.toNat]?, fin[z.toNat]? with
      | some b, some x => hasP l.length z && (x == -2 && lead b)
      | _, _ => false)) ∧ Ext w w' := by
  have HH := hide (fun (z : Int) (W : World) => hasB_w ga l.length gc z W hn)
  have HL := hide lead_w
  obtain ⟨b0, b1, fN, cN⟩ := hT.at
  by_cases hz : 0 ≤ z ∧ z < l.length
  · obtain ⟨i, rfl⟩ : ∃ i : Nat, z = i := ⟨z.toNat, by omega⟩
    have hil : i < l.length := by omega
    obtain ⟨b, hb⟩ : ∃ b, l[i]? = some b := ⟨_, List.getElem?_eq_getElem hil⟩
    obtain ⟨x, hx⟩ : ∃ x, fin[i]? = some x := ⟨_, List.getElem?_eq_getElem (by rw [hT.len]; exact hil)⟩
    have c := cN i x hx
    obtain ⟨g, o, d, rfl, _, _, r0, r1, r2, r3, r4, _⟩ := hr.at hb
    have hh : hasP l.length (i : Int) = true := decide_eq_true hz
    have HH2 := hide (fun W => hh ▸ unhide HH (i : Int) W)
    rw [show ((i : Int)).toNat = i by omega, hb, hx, hh]
    simp only [Bool.true_and]
    have hiz : (i : Int) < (l.length : Int) := by omega
    clear hb hx cN hh HH hr hT
    generalize l.length = n at *
    have HLb := hide (unhide HL b d)
    clear HL
    generalize lead b = B1 at *
    by_cases hx2 : x = -2
    · subst hx2
      go_enter Try.func39, Try.ntmps39
      go_wp2_with (first | (go_at_call 50; refine Calls.mono (unhide HH2 _) ?_; rintro e w1 ⟨rfl, hw⟩; obtain rfl := hw.symm; clear hw) | (go_at_call 51; refine Calls.mono (unhide HLb _) ?_; rintro e w2 ⟨rfl, x2⟩; have X2 := hide x2; clear x2))
      go_ret
      exact ⟨retB (by simp), unhide X2⟩
    · have e2 : (x == -2) = false := by simp [hx2]
      go_enter Try.func39, Try.ntmps39
      go_wp2_with (go_at_call 50; refine Calls.mono (unhide HH2 _) ?_; rintro e w1 ⟨rfl, hw⟩; obtain rfl := hw.symm; clear hw)
      go_ret
      exact ⟨retB (by simp [e2]), Ext.refl _⟩
  · have hh : hasP l.length z = false := decide_eq_false hz
    have HH2 := hide (fun W => hh ▸ unhide HH z W)
    have e : (match l[z.toNat]?, fin[z.toNat]? with
      | some b, some x => hasP l.length z && (x == -2 && lead b)
      | _, _ => false) = false := by
      split
      · rw [hh]; rfl
      · rfl
    rw [e]
    clear e hh HH hr hT cN fN hz
    generalize l.length = n at *
    go_enter Try.func39, Try.ntmps39
    go_wp2_with (go_at_call 50; refine Calls.mono (unhide HH2 _) ?_; rintro e w1 ⟨rfl, hw⟩; obtain rfl := hw.symm; clear hw)
    go_ret
    exact ⟨rfl, Ext.refl _⟩

end Go.Proofs.Ytdnhekgbfhlhoaa
