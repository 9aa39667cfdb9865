/- What the document fixes of layer 8; texts under way. · The walk of the law GenTicks. -/
import Derived.Test.YtlgdjeiendmniaaGreatDoorZg39
set_option linter.unusedSimpArgs false
set_option linter.unusedVariables false
set_option maxRecDepth 10000

namespace Go.Proofs.YtlgdjeiendmniaaGreatDoor
open Go.RowKit

def txG (l : List UInt8) : ByteArray := ⟨l.toArray⟩
theorem txG_app (l m : List UInt8) : txG l ++ ⟨m.toArray⟩ = txG (l ++ m) := by
  apply ByteArray.ext
  rw [ByteArray.data_append]
  apply Array.ext'
  simp [txG]
theorem txG_size (l : List UInt8) : (txG l).size = l.length := by simp [txG, ByteArray.size]
theorem mask7 (a : Int) : ∃ n : Nat, bits .and .i64 a 7 = n ∧ n < 8 := by
  refine ⟨(BitVec.ofInt 64 a &&& BitVec.ofInt 64 7).toNat, ?_, ?_⟩
  · have hl : (BitVec.ofInt 64 a &&& BitVec.ofInt 64 7).toNat ≤ 7 := by
      rw [BitVec.toNat_and]; exact Nat.and_le_right
    show IntKind.wrap .i64 ((BitVec.ofInt 64 a &&& BitVec.ofInt 64 7).toNat : Int) = _
    generalize (BitVec.ofInt 64 a &&& BitVec.ofInt 64 7).toNat = n at hl
    have e : IntKind.wrap .i64 (n : Int) = if (true && decide ((n : Int) % (18446744073709551616 : Int) ≥ (9223372036854775808 : Int))) = true then (n : Int) % 18446744073709551616 - 18446744073709551616 else (n : Int) % 18446744073709551616 := rfl
    rw [e]
    have : decide ((n : Int) % (18446744073709551616 : Int) ≥ (9223372036854775808 : Int)) = false := by
      rw [decide_eq_false_iff_not]; omega
    rw [this]
    simp only [Bool.and_false, Bool.false_eq_true, if_false]
    omega
  · have h : (BitVec.ofInt 64 a &&& BitVec.ofInt 64 7).toNat ≤ 7 := by rw [BitVec.toNat_and]; exact Nat.and_le_right
    omega

def awF : V.KF := ⟨⟨#[109, 97, 105, 110]⟩, 0, 0, [gcP (some 1), gcP none], [⟨1, 0, 0⟩, ⟨11, 0, 0⟩, ⟨1, 1, 0⟩, ⟨10, 0, 0⟩]⟩
theorem aw_src : gSrc ⟨awT.toArray⟩ 100 1000 100 1000 = some (0, 0, [awF], 0) := by
  rw [gSrc_L]
  kernel_rfl
theorem aw_len : (begP ⟨awT.toArray⟩).ts.length < 100 := by
  rw [begP_L]
  have h : (begL awT).ts.length = 9 := by kernel_rfl
  omega

set_option maxHeartbeats 2000000 in
theorem awake8_w (w : World) (he : Er w) (hO : Opx w) (hT : Tbl w) (hP : Shp w) : Calls Tryz.prog 6 #[] w fun e w' => e = .returned (.bool true) ∧ Ext w w' := by
  have H1 := hide (gsource_w ⟨awT.toArray⟩ 100 1000 100 1000 w 0 0 0 [awF] he hO hT hP (by decide) aw_len (by decide) (by decide) (by decide) aw_src)
  replace H1 : Hd (Calls Tryz.prog 5 #[.string ⟨#[102, 110, 32, 109, 97, 105, 110, 40, 41, 32, 123, 32, 112, 114, 105, 110, 116, 32, 49, 59, 32, 125]⟩] w fun e' w' => ∃ pa pc, e' = .returned (.tuple #[V.kpV pa 1 pc 0, .int .i64 0, .int .i64 0]) ∧ ((0 : Int) = 0 → V.RepP w' (Up w w') pa [awF]) ∧ Ext w w') := H1
  clear he hO hT hP
  go_enter Tryz.func6, Tryz.ntmps6
  go_wp2_with (go_at_call 5; (refine Calls.mono (unhide H1) ?_; rintro e w1 ⟨pa, pc, rfl, hr, hX⟩; have X1 := hide hX; obtain ⟨b, o, ca, cc, ka, kc, rfl, hb, c0, c1, c2, c3, c4, hrl, hrc⟩ := V.RepP.at (hr rfl) (j := 0) (f := awF) rfl; have c3 : w1.cell? ⟨b, o + 3, none⟩ = some (.slice ca 2 cc) := (by simpa [awF] using c3); have c4 : w1.cell? ⟨b, o + 4, none⟩ = some (.slice ka 4 kc) := (by simpa [awF] using c4); obtain ⟨b2, o2, rfl, hb2, d0, _, _⟩ := V.RepC.at hrc (j := 0) rfl; obtain ⟨b3, o3, e3, hb3, d1, _, _⟩ := V.RepC.at hrc (j := 1) rfl; obtain ⟨b4, o4, e4, hb4, d3, _, _⟩ := V.RepC.at hrc (j := 3) rfl; injection e3 with e3; injection e3 with e31 e32; subst e31 e32; injection e4 with e4; injection e4 with e41 e42; subst e41 e42; simp only [Nat.zero_mul, Nat.add_zero, Nat.one_mul] at d0 d1 d3; have hb : b ≠ w1.heap.size := Nat.ne_of_lt hb.2; have hb2 : b2 ≠ w1.heap.size := Nat.ne_of_lt hb2.2; have c3 := (fun ob => (Ext.alloc w1 ob).cell c3); have c4 := (fun ob => (Ext.alloc w1 ob).cell c4); have d0 := (fun ob => (Ext.alloc w1 ob).cell d0); have d1 := (fun ob => (Ext.alloc w1 ob).cell d1); have d3 := (fun ob => (Ext.alloc w1 ob).cell d3); clear hX hr hrl hrc c0 c1 c2 hb3 hb4))
  go_ret
  exact ⟨rfl, (unhide X1).trans (Ext.alloc _ _)⟩

end Go.Proofs.YtlgdjeiendmniaaGreatDoor

namespace Go.Proofs.YtlgdjeiendmniaaGreatDoor
open Go.RowKit

theorem scn_le : ∀ {l : List V.KI} {n m : Int}, scn l n = some m → n ≤ m := by
  intro l
  induction l with
  | nil => intro n m h; injection h with h; omega
  | cons i r ih =>
    intro n m h
    rw [scn] at h
    split at h
    · split at h
      · have := ih h; omega
      · cases h
    · exact ih h
/-- What is told of the texts, function by function. -/
theorem tkOk_gives {l c o : Nat} (h : tkOk l c o = true) : (begP ⟨(tkT l c o).toArray⟩).ts.length < 400 ∧ ∃ pl p q a, gSrc ⟨(tkT l c o).toArray⟩ 400 10000 100 5000 = some (0, pl, [p, q], 1) ∧ scn p.code 0 = some a ∧ scn q.code a = some (2 * (o : Int) + l + c) := by
  unfold tkOk at h
  rw [Bool.and_eq_true] at h
  obtain ⟨h1, h2⟩ := h
  rw [begP_L]
  refine ⟨of_decide_eq_true h1, ?_⟩
  rw [gSrc_L]
  split at h2
  · cases h2
  · rename_i e pl fns m hq
    unfold tkIs at h2
    rw [Bool.and_eq_true, Bool.and_eq_true] at h2
    obtain ⟨h3, h4, h5⟩ := h2
    obtain rfl := of_decide_eq_true h3
    obtain rfl := of_decide_eq_true h4
    split at h5
    · rename_i p q
      split at h5
      · cases h5
      · rename_i a ha
        split at h5
        · cases h5
        · rename_i b hb
          obtain rfl := of_decide_eq_true h5
          exact ⟨pl, p, q, a, hq, ha, hb⟩
    · cases h5
theorem tkT_len (l c o : Nat) : (tkT l c o).length = 28 + o * 20 + l * 22 + c * 8 := by
  unfold tkT tk3 tk2 tk1
  simp only [List.length_append, rp_len]
  simp only [tkA, tkB, tkW, tkL, tkK, List.length_cons, List.length_nil]
  omega
theorem gSrc_ok {s : ByteArray} {f f2 f3 K : Nat} {pl m : Int} {fns : List V.KF} (h : gSrc s f f2 f3 K = some (0, pl, fns, m)) : fns.all kfOk = true := by
  unfold gSrc at h
  split at h
  · cases h
  · rename_i r hr
    split at h
    · split at h
      · cases h
      · rename_i e fns1 m1 hg
        injection h with h
        injection h with q1 h
        injection h with q2 h
        injection h with q3 q4
        subst q1 q3
        obtain ⟨R, _, hres⟩ := gPrg_res hg
        rcases hres with ⟨_, h5, _⟩ | ⟨F, b, _, hk, _, h6⟩
        · cases h5
        · rcases h6 with ⟨_, h5, _⟩ | ⟨_, _, rfl, _⟩
          · cases h5
          · exact hk
    · rename_i hne
      injection h with h
      injection h with q1 h
      exact absurd q1 hne
/-- The ticks ahead of a function. -/
def nnT (a t : Int) (k : Nat) : Int := if k = 0 then 0 else if k = 1 then a else t

set_option maxHeartbeats 2000000 in
theorem ticks_walk0 (a0 a1 a2 : Int) (l c o : Nat) (w : World) (h0 : bits .and .i64 a0 7 = (l : Int)) (h1 : bits .and .i64 a1 7 = (c : Int)) (h2 : bits .and .i64 a2 7 = (o : Int)) (hl : l < 8) (hc : c < 8) (ho : o < 8) (hok : tkOk l c o = true) (he : Er w) (hO : Opx w) (hT : Tbl w) (hP : Shp w) :
    Calls Tryz.prog 3 #[.int .i64 a0, .int .i64 a1, .int .i64 a2] w fun e w' => e = .returned (.bool true) ∧ Ext w w' := by
  obtain ⟨hbg, pl, p, q, a, hsrc, hs1, hs2⟩ := tkOk_gives hok
  have HAw := hide (fun (W : World) (x : Ext w W) => awake8_w W (he.on x) (hO.ext x) (hT.ext x) (hP.ext x))
  have hln := tkT_len l c o
  have HSr : Hd (∀ s : ByteArray, s = ⟨(tkT l c o).toArray⟩ → Calls Tryz.prog 5 #[.string s] w fun e' w' => ∃ pa pc, e' = .returned (.tuple #[V.kpV pa 2 pc 1, .int .i64 pl, .int .i64 0]) ∧ V.RepP w' (Up w w') pa [p, q] ∧ Ext w w') := fun s hs => by
    subst hs
    refine (gsource_w ⟨(tkT l c o).toArray⟩ 400 10000 100 5000 w 0 pl 1 [p, q] he hO hT hP (by show (txG (tkT l c o)).size ≤ _; rw [txG_size, hln]; omega) hbg (by decide) (by decide) (by decide) hsrc).mono ?_
    rintro e w' ⟨pa, pc, h1, h2, h3⟩
    exact ⟨pa, pc, h1, h2 rfl, h3⟩
  have hsc : Hd (∀ k, k < 2 → ∃ f, [p, q][k]? = some f ∧ scn f.code (nnT a (2 * (o : Int) + l + c) k) = some (nnT a (2 * (o : Int) + l + c) (k + 1))) := fun k hk => by
    match k, hk with
    | 0, _ => exact ⟨p, rfl, hs1⟩
    | 1, _ => exact ⟨q, rfl, hs2⟩
  have hlb : Hd (∀ (k : Nat) (f : V.KF), [p, q][k]? = some f → f.code.length ≤ 1000000) := fun k f hf => ((kfB_of (gSrc_ok hsrc)) f (List.mem_of_getElem? hf)).2.1
  have hnn : Hd (∀ k, 0 ≤ nnT a (2 * (o : Int) + l + c) k ∧ nnT a (2 * (o : Int) + l + c) k ≤ 28) := fun k => by
    have := scn_le hs1
    have := scn_le hs2
    unfold nnT
    split
    · omega
    · split <;> omega
  have hnE : Hd (nnT a (2 * (o : Int) + l + c) 2 = 2 * (o : Int) + l + c) := rfl
  have hn0 : Hd (nnT a (2 * (o : Int) + l + c) 0 = 0) := rfl
  generalize nnT a (2 * (o : Int) + l + c) = nn at *
  clear he hO hT hP hok hsrc hs1 hs2 hbg hln
  go_enter Tryz.func3, Tryz.ntmps3
  go_wp2_with fail
  go_loopw [7, 8] (fun sv i wr => ∃ (j : Nat), i = .int .i64 j ∧ j ≤ o ∧ sv = .string (txG (tk1 j)) ∧ wr = w) (fun _ i _ => o - (intOf i).toNat)
  case atStart => exact ⟨0, rfl, by omega, rfl, rfl⟩
  case round =>
    obtain ⟨j, rfl, hj, rfl, hX⟩ := hrel
    obtain rfl := hX.symm
    have hl1 : (txG (tk1 j)).size ≤ 200 := by rw [txG_size]; unfold tk1; rw [List.length_append, rp_len]; show 11 + j * 20 ≤ _; omega
    by_cases hlt : j < o
    · have HS1 : Hd (txG (tk1 j) ++ ⟨#[119, 104, 105, 108, 101, 32, 48, 32, 123, 32, 102, 32, 40, 32, 41, 32, 59, 32, 125, 32]⟩ = txG (tk1 (j + 1))) := by
        refine (txG_app (tk1 j) tkW).trans ?_
        unfold tk1
        rw [rp, List.append_assoc]
      generalize txG (tk1 j) = s1 at *
      go_wp2_with fail
      go_roundw
      case rel => exact ⟨j + 1, by go_num, by omega, by first | rw [unhide HS1] | (rw [← unhide HS1]; rfl), by first | rfl | trivial⟩
      case measure => simp [intOf]; omega
    · obtain rfl : j = o := by omega
      have HS1 : Hd (txG (tk1 j) ++ ⟨#[125, 32, 102, 110, 32, 109, 97, 105, 110, 32, 40, 32, 41, 32, 123, 32]⟩ = txG (tk2 j 0)) := by
        refine (txG_app (tk1 j) tkB).trans ?_
        unfold tk2
        rw [rp, List.append_nil]
      generalize txG (tk1 j) = s1 at *
      go_wp2_with fail
      rw [unhide HS1]
      clear HS1 hl1 hlt hj
      go_loopw [7, 9] (fun sv i wr => ∃ (k : Nat), i = .int .i64 k ∧ k ≤ l ∧ sv = .string (txG (tk2 j k)) ∧ wr = w) (fun _ i _ => l - (intOf i).toNat)
      case atStart => exact ⟨0, rfl, by omega, rfl, rfl⟩
      case round =>
        obtain ⟨k, rfl, hk, rfl, hX⟩ := hrel
        obtain rfl := hX.symm
        have hl1 : (txG (tk2 j k)).size ≤ 400 := by rw [txG_size]; unfold tk2 tk1; rw [List.length_append, List.length_append, List.length_append, rp_len, rp_len]; show 11 + j * 20 + 16 + k * 22 ≤ _; omega
        by_cases hlt : k < l
        · have HS1 : Hd (txG (tk2 j k) ++ ⟨#[119, 104, 105, 108, 101, 32, 108, 101, 110, 32, 40, 32, 91, 32, 93, 32, 41, 32, 123, 32, 125, 32]⟩ = txG (tk2 j (k + 1))) := by
            refine (txG_app (tk2 j k) tkL).trans ?_
            unfold tk2
            rw [rp, List.append_assoc]
          generalize txG (tk2 j k) = s1 at *
          go_wp2_with fail
          go_roundw
          case rel => exact ⟨k + 1, by go_num, by omega, by first | rw [unhide HS1] | (rw [← unhide HS1]; rfl), by first | rfl | trivial⟩
          case measure => simp [intOf]; omega
        · obtain rfl : k = l := by omega
          have HS1 : Hd (txG (tk2 j k) = txG (tk3 j k 0)) := by
            unfold tk3
            rw [rp, List.append_nil]
            rfl
          rw [unhide HS1]
          clear HS1 hl1 hlt hk
          go_wp2_with fail
          go_loopw [7, 10] (fun sv i wr => ∃ (z : Nat), i = .int .i64 z ∧ z ≤ c ∧ sv = .string (txG (tk3 j k z)) ∧ wr = w) (fun _ i _ => c - (intOf i).toNat)
          case atStart => exact ⟨0, rfl, by omega, rfl, rfl⟩
          case round =>
            obtain ⟨z, rfl, hz, rfl, hX⟩ := hrel
            obtain rfl := hX.symm
            have hl1 : (txG (tk3 j k z)).size ≤ 500 := by rw [txG_size]; unfold tk3 tk2 tk1; rw [List.length_append, List.length_append, List.length_append, List.length_append, rp_len, rp_len, rp_len]; show 11 + j * 20 + 16 + k * 22 + z * 8 ≤ _; omega
            by_cases hlt : z < c
            · have HS1 : Hd (txG (tk3 j k z) ++ ⟨#[102, 32, 40, 32, 41, 32, 59, 32]⟩ = txG (tk3 j k (z + 1))) := by
                refine (txG_app (tk3 j k z) tkK).trans ?_
                unfold tk3
                rw [rp, List.append_assoc]
              generalize txG (tk3 j k z) = s1 at *
              go_wp2_with fail
              go_roundw
              case rel => exact ⟨z + 1, by go_num, by omega, by first | rw [unhide HS1] | (rw [← unhide HS1]; rfl), by first | rfl | trivial⟩
              case measure => simp [intOf]; omega
            · obtain rfl : z = c := by omega
              have HS1 : Hd (txG (tk3 j k z) ++ ⟨#[125]⟩ = ⟨(tkT k z j).toArray⟩) := txG_app (tk3 j k z) [125]
              have HC := hide (unhide HSr _ (unhide HS1))
              clear HSr HS1 hlt hz
              generalize txG (tk3 j k z) = s1 at *
              go_wp2_with (go_at_call 5; refine Calls.mono (unhide HC) ?_; rintro e w1 ⟨pa, pc, rfl, hr, hX⟩; have X1 := hide hX; have RP := hide hr; clear hX hr)
              obtain ⟨W2, hW2⟩ : ∃ W2, W2 = w1.alloc (.cells #[.slice pa 2 pc, .int .i64 1] 24) := ⟨_, rfl⟩
              rw [← hW2]
              have hX2 : Ext w1 W2 := by rw [hW2]; exact Ext.alloc _ _
              have HR2 : Hd (W2.heap[w1.heap.size]? = some (.cells #[.slice pa 2 pc, .int .i64 1] 24 (0, 0))) := by unfold Hd; rw [hW2]; exact Go.heap_alloc_new w1 _
              have RP2 : Hd (V.RepP W2 (V.In W2) pa [p, q]) := (unhide RP).to (fun q hq => ⟨Nat.lt_of_lt_of_le hq.2 hX2.size, hX2.block q hq.2⟩)
              have X2 := hide ((unhide X1).trans hX2)
              clear RP hX2 hW2
              go_loopw [14, 15] (fun n f wr => ∃ (i : Nat), f = .int .i64 i ∧ i ≤ 2 ∧ n = .int .i64 (nn i) ∧ Hd (Ext W2 wr)) (fun _ i _ => 2 - (intOf i).toNat)
              case atStart => exact ⟨0, rfl, by omega, by rw [unhide hn0], Ext.refl _⟩
              case round =>
                obtain ⟨i, rfl, hi, rfl, hE⟩ := hrel
                by_cases hlt : i < 2
                · obtain ⟨f, hf, hs⟩ := unhide hsc i hlt
                  have hi2 : (i : Int) < 2 := by omega
                  have HS := hide hs
                  obtain ⟨b, o', ca, cc, ka, kc, rfl, hb, c0, c1, c2, c3, c4, hrl, hrc⟩ := (unhide RP2).at hf
                  have HRC := hide hrc
                  have C4 := hide c4
                  clear hs c0 c1 c2 c3 c4 hrl hrc hb
                  have p0 := rowC ((unhide hE).row (unhide HR2)) 0 rfl
                  have q4 := (unhide hE).cell (unhide C4)
                  have hlf := unhide hlb i f hf
                  clear hf
                  have hni := unhide hnn i
                  have hni1 := unhide hnn (i + 1)
                  have hip : Hd (((i + 1 : Nat) : Int) = (i : Int) + 1) := by unfold Hd; omega
                  go_wp2_with fail
                  go_loopw [14, 16] (fun n t wr' => ∃ (y : Nat) (x : Int), t = .int .i64 y ∧ y ≤ f.code.length ∧ n = .int .i64 x ∧ Hd (scn (f.code.drop y) x = some (nn (i + 1))) ∧ (0 ≤ x ∧ x ≤ 28) ∧ Hd (Ext W2 wr')) (fun _ t _ => f.code.length - (intOf t).toNat)
                  case atStart => exact ⟨0, nn i, rfl, by omega, rfl, by simpa [Hd] using HS, hni, hE⟩
                  case round =>
                    clear hE p0 q4
                    obtain ⟨y, x, rfl, hy, rfl, hsx, hx, hE⟩ := hrel
                    have p0 := rowC ((unhide hE).row (unhide HR2)) 0 rfl
                    have q4 := (unhide hE).cell (unhide C4)
                    by_cases hyl : y < f.code.length
                    · have hyl2 : (y : Int) < (f.code.length : Int) := by omega
                      obtain ⟨I, hI⟩ : ∃ I, f.code[y]? = some I := ⟨_, List.getElem?_eq_getElem hyl⟩
                      have hsy := unhide hsx
                      rw [List.drop_eq_getElem_cons hyl, (List.getElem?_eq_some_iff.1 hI).2, scn] at hsy
                      obtain ⟨b2, o2, rfl, hb2, d0, d1, d2⟩ := (unhide HRC).at hI
                      have d0 := (unhide hE).cell d0
                      have d1 := (unhide hE).cell d1
                      obtain ⟨op, A, B⟩ := I
                      simp only at d0 d1 hsy
                      clear d2 hb2 hsx hI
                      by_cases hop : op = 12
                      · rw [if_pos hop] at hsy
                        by_cases hA : A = x + 1
                        · rw [if_pos hA] at hsy
                          have hle := scn_le hsy
                          have HSY := hide hsy
                          subst hop hA
                          clear hsy
                          go_wp2_with fail
                          go_roundw
                          case rel => exact ⟨y + 1, x + 1, by go_num, by omega, rfl, HSY, by omega, hE⟩
                          case measure => simp [intOf]; omega
                        · rw [if_neg hA] at hsy; cases hsy
                      · rw [if_neg hop] at hsy
                        have hop2 : (op == 12) = false := by simpa using hop
                        have HSY := hide hsy
                        clear hsy hop
                        go_wp2_with fail
                        go_roundw
                        case rel => exact ⟨y + 1, x, by go_num, by omega, rfl, HSY, hx, hE⟩
                        case measure => simp [intOf]; omega
                    · obtain rfl : y = f.code.length := by omega
                      have hsy := unhide hsx
                      rw [List.drop_length, scn] at hsy
                      injection hsy with hsy
                      subst hsy
                      go_wp2_with fail
                      go_roundw
                      case rel => exact ⟨i + 1, by go_num, by omega, rfl, hE⟩
                      case measure => simp [intOf]; omega
                · obtain rfl : i = 2 := by omega
                  have hN2 := unhide hnE
                  go_wp2_with (go_at_call 6; refine Calls.mono (unhide HAw _ ((unhide X2).trans (unhide hE))) ?_; rintro e w3 ⟨rfl, hw⟩; have X3 := hide (((unhide X2).trans (unhide hE)).trans hw); clear hw)
                  go_ret
                  exact ⟨rfl, unhide X3⟩

end Go.Proofs.YtlgdjeiendmniaaGreatDoor
