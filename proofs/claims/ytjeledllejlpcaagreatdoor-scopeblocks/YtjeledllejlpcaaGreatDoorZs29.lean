/- The law ScopeBlocks: any row of acts. -/
import Derived.Test.YtjeledllejlpcaaGreatDoorZs28
set_option linter.unusedSimpArgs false
set_option linter.unusedVariables false
set_option maxRecDepth 10000

namespace Go.Proofs.YtjeledllejlpcaaGreatDoor
open Go.RowKit Go.Maps

def sbX (l : List UInt8) : ByteArray := ⟨l.toArray⟩
theorem sbX_app (l : List UInt8) (a : Array UInt8) : sbX l ++ ⟨a⟩ = sbX (l ++ a.toList) := by
  apply ByteArray.ext
  rw [ByteArray.data_append]
  apply Array.ext'
  simp [sbX]
theorem sbX_size (l : List UInt8) : (sbX l).size = l.length := by simp [sbX, ByteArray.size]
theorem openW_len : ∀ (out : List (List BS)), (wTxt (openW out)).length ≤ 12 * czO out
  | [] => by rw [openW, czO]; decide
  | l :: out => by
    have h1 := openW_len out
    have h2 := bWL_len l
    rw [openW, czO, wTxt_append, wTxt_append, List.length_append, List.length_append]
    have e : (wTxt [wIf, wOne, wLb]).length = 7 := rfl
    omega
theorem tz_len (cur : List BS) (out : List (List BS)) : (tz cur out).length ≤ 14 + 12 * (bCL cur + czO out) := by
  have h1 := openW_len out
  have h2 := bWL_len cur
  unfold tz
  rw [wTxt_append, wTxt_append, List.length_append, List.length_append]
  have e : (wTxt wHead).length = 14 := rfl
  omega
theorem sb_below {base k : Nat} {w W w1 : World} {t : Value} {xs : List Value} (ho : W.ownsRow base 3 1 t k xs) (hb : Below base w W) (hbase : base ≤ w.heap.size) (hgrow : W.grownBy w1 t.ownBlock) : Below base w w1 := by
  refine hb.grown hgrow (Nat.le_trans hbase hb.size) ?_
  intro j hj
  obtain ⟨_, h | ⟨g, cap, cur, h, hg, _⟩⟩ := ho
  · rw [h.1] at hj; cases hj
  · rw [h] at hj; cases hj; exact hg
theorem sb_new (W : World) (b : Nat) (hb : b = W.heap.size) (xs : List Value) (t : TypeId) : ∀ (j : Nat) (u : Value), xs[j]? = some u → (W.alloc (.cells xs.toArray t)).cell? ((⟨b, 0, none⟩ : Addr).add j) = some u := by
  subst hb
  exact cells_new W xs.toArray t
abbrev sbI (l : List Int) : List Value := l.map (fun x => Value.int .i64 x)
theorem sb_mask (a : Int) : ∃ n : Nat, bits .and .i64 a 3 = n ∧ n ≤ 3 := by
  refine ⟨(BitVec.ofInt 64 a &&& BitVec.ofInt 64 3).toNat, ?_, ?_⟩
  · have hl : (BitVec.ofInt 64 a &&& BitVec.ofInt 64 3).toNat ≤ 3 := by
      rw [BitVec.toNat_and]; exact Nat.and_le_right
    show IntKind.wrap .i64 ((BitVec.ofInt 64 a &&& BitVec.ofInt 64 3).toNat : Int) = _
    generalize (BitVec.ofInt 64 a &&& BitVec.ofInt 64 3).toNat = n at hl
    have e : IntKind.wrap .i64 (n : Int) = if (true && decide ((n : Int) % (18446744073709551616 : Int) ≥ (9223372036854775808 : Int))) = true then (n : Int) % 18446744073709551616 - 18446744073709551616 else (n : Int) % 18446744073709551616 := rfl
    rw [e]
    have : decide ((n : Int) % (18446744073709551616 : Int) ≥ (9223372036854775808 : Int)) = false := by
      rw [decide_eq_false_iff_not]; omega
    rw [this]
    simp only [Bool.and_false, Bool.false_eq_true, if_false]
    omega
  · rw [BitVec.toNat_and]; exact Nat.and_le_right
/-- The argument: from the address on the numbers of l. -/
def ArgI (w : World) (a : Option Addr) (l : List Int) : Prop := l = [] ∨ ∃ b o, a = some ⟨b, o, none⟩ ∧ ∀ (j : Nat) (x : Int), l[j]? = some x → w.cell? ⟨b, o + j, none⟩ = some (.int .i64 x)
theorem own_none {w : World} {base : Nat} {v : Value} {n : Nat} {xs : List Value} (h : w.ownsRow base 3 1 v n xs) : ∃ a cap, v = .slice a n cap := by
  rcases h.2 with ⟨rfl, rfl⟩ | ⟨g, cap, cur, rfl, _⟩
  · exact ⟨_, _, rfl⟩
  · exact ⟨_, _, rfl⟩
theorem own_one {w : World} {base : Nat} {v : Value} {x : Int} (h : w.ownsRow base 3 1 v 1 [.int .i64 x]) : ∃ g cap, v = .slice (some ⟨g, 0, none⟩) 1 cap ∧ 1 ≤ cap ∧ w.cell? ⟨g, 0, none⟩ = some (.int .i64 x) := by
  rcases id h.2 with ⟨_, h0⟩ | ⟨g, cap, cur, rfl, h1, h2, h3, _⟩
  · cases h0
  · refine ⟨g, cap, rfl, h3, ?_⟩
    have := h.cells (g := g) rfl 0 (.int .i64 x) rfl
    simpa [Addr.add] using this
theorem own_cut0 {w : World} {base : Nat} {a : Option Addr} {n cap : Nat} {xs : List Value} (h : w.ownsRow base 3 1 (.slice a n cap) n xs) : w.ownsRow base 3 1 (.slice a 0 cap) 0 [] := by
  obtain ⟨h1, h2⟩ := h
  refine ⟨rfl, ?_⟩
  rcases h2 with ⟨q1, q2⟩ | ⟨b, cap2, cur, q1, q2, q3, q4, q5, q6, q7⟩
  · injection q1 with q1 q8 q9
    subst q1 q9
    exact Or.inl ⟨rfl, rfl⟩
  · injection q1 with q1 q8 q9
    subst q1 q9
    exact Or.inr ⟨b, cap, cur, rfl, q2, q3, by omega, q5, q6, by simp⟩
theorem sb_one (x : Int) : ∀ u ∈ ([.int .i64 x] : List Value), u.oneCell' = true := by
  intro u hu
  simp at hu
  subst hu
  rfl

/-- While blocks are shut behind the acts. -/
structure ShI (Z : List BS) (N : Nat) (cur : List BS) (out : List (List BS)) : Prop where
  sh : shutZ cur out = Z
  ct : bCL cur + czO out = N
  dp : out.length ≤ 15
theorem ShI.shut {Z : List BS} {N : Nat} {cur l : List BS} {out : List (List BS)} (h : ShI Z N cur (l :: out)) : ShI Z N (l ++ [.fi cur]) out := by
  refine ⟨by have := h.sh; rwa [shutZ] at this, ?_, by have := h.dp; rw [List.length_cons] at this; omega⟩
  have := h.ct
  rw [czO] at this
  rw [bCL_append, bCL, bCL, bC]
  omega

set_option maxHeartbeats 4000000 in
theorem blocks_walk (l : List Int) (ad : Option Addr) (cap : Nat) (w : World) (hA : ArgI w ad l) (hlb : l.length ≤ 9223372036854775807) (he : Er w) (hOx : Opx w) (hTb : Tbl w) :
    Calls Tryz.prog 3 #[.slice ad l.length cap] w fun e w' => e = .returned (.bool true) ∧ Ext w w' := by
  have HAw := hide (fun (W : World) (x : Ext w W) => awake_w W (he.on x) (hOx.ext x) (hTb.ext x))
  have HSr := hide (fun (W : World) (x : Ext w W) (s : ByteArray) (r : PSrc) (h1 : s.size ≤ 140737488355328) (h2 : (begP s).ts.length < 5000) (h3 : srcP s 5000 100000 = some r) => source_w s 5000 100000 W r (he.on x) (hOx.ext x) (hTb.ext x) h1 h2 (by decide) (by decide) h3)
  have HA := hide hA
  clear he hOx hTb hA
  obtain ⟨i0, hi, hz0, hz1, hz2⟩ := info_parts infoIS
  have HI := hide hi
  have Z0 := hide hz0
  have Z1 := hide hz1
  have Z2 := hide hz2
  clear hi hz0 hz1 hz2
  go_enter Tryz.func3, Tryz.ntmps3
  go_wp2_with fail
  go_loopw [3, 4, 5, 6, 7, 8, 9] (fun s d sn le us gd i wr => ∃ (cur : List BS) (out : List (List BS)) (seen : List Int) (lets uses k : Nat), s = .string (sbX (tz cur out)) ∧ d = .int .i64 (out.length : Int) ∧ le = .int .i64 (lets : Int) ∧ us = .int .i64 (uses : Int) ∧ gd = .bool true ∧ i = .int .i64 (k : Int) ∧ k ≤ 30 ∧ k ≤ l.length ∧ Hd (ZI k cur out seen lets uses true) ∧ Hd (wr.ownsRow w.heap.size 3 1 sn seen.length (sbI seen)) ∧ Hd (Ext w wr)) (fun _ _ _ _ _ _ i _ => 30 - (intOf i).toNat)
  case atStart => exact ⟨[], [], [], 0, 0, 0, by rw [tz_start]; rfl, rfl, rfl, rfl, rfl, rfl, by omega, by omega, ZI.start, World.ownsRow_nil _ _ _ _, Ext.refl w⟩
  case round =>
    obtain ⟨cur, out, seen, lets, uses, k, rfl, rfl, rfl, rfl, rfl, rfl, hk, hk2, hZ, hO, hE⟩ := hrel
    have hZl := tz_len cur out
    have hct := (unhide hZ).cnt
    have hdp := (unhide hZ).deep
    have hlt := (unhide hZ).lb
    have hub := (unhide hZ).ub
    obtain ⟨sa, sc, rfl⟩ := own_none (unhide hO)
    by_cases hl1 : k < l.length
    · by_cases hl2 : k < 30
      · obtain ⟨x, hx⟩ : ∃ x, l[k]? = some x := ⟨_, List.getElem?_eq_getElem hl1⟩
        obtain ⟨bb, off, rfl, hc⟩ : ∃ b o, ad = some ⟨b, o, none⟩ ∧ w.cell? ⟨b, o + k, none⟩ = some (.int .i64 x) := by
          rcases unhide HA with h | ⟨b, o, h, hc⟩
          · rw [h] at hx; simp at hx
          · exact ⟨b, o, h, hc k x hx⟩
        have hc := (unhide hE).cell hc
        clear hx
        obtain ⟨n, hn, hn3⟩ := sb_mask x
        have hcs : n = 0 ∨ n = 1 ∨ n = 2 ∨ n = 3 := by omega
        have hs0 : (sbX (tz cur out)).size ≤ 1000 := by rw [sbX_size]; omega
        clear hn3
        rcases hcs with rfl | rfl | rfl | rfl
        · -- a block is opened
          by_cases hd : out.length < 15
          · have HN : Hd (sbX (tz cur out) ++ ⟨#[105, 102, 32, 49, 32, 123, 32]⟩ = sbX (tz [] (cur :: out))) := by unfold Hd; rw [sbX_app, tz_open]
            have HZ' := hide ((unhide hZ).open hd)
            clear hZl hct hlt hub
            generalize sbX (tz cur out) = s0 at *
            go_wp2_with fail
            go_roundw
            case rel => exact ⟨[], cur :: out, seen, lets, uses, k + 1, by rw [unhide HN], by simp, rfl, rfl, rfl, by go_num, by omega, by omega, HZ', hO, hE⟩
            case measure => simp [intOf]; omega
          · have HZ' := hide ((unhide hZ).skip)
            clear hZl hct hlt hub
            generalize hs0' : sbX (tz cur out) = s0 at *
            have HS0 := hide hs0'
            clear hs0'
            go_wp2_with fail
            go_roundw
            case rel => exact ⟨cur, out, seen, lets, uses, k + 1, by rw [unhide HS0], rfl, rfl, rfl, rfl, by go_num, by omega, by omega, HZ', hO, hE⟩
            case measure => simp [intOf]; omega
        · -- a block is shut
          cases out with
          | nil =>
            have HZ' := hide ((unhide hZ).skip)
            clear hZl hct hlt hub
            generalize hs0' : sbX (tz cur []) = s0 at *
            have HS0 := hide hs0'
            clear hs0'
            go_wp2_with fail
            go_roundw
            case rel => exact ⟨cur, [], seen, lets, uses, k + 1, by rw [unhide HS0], rfl, rfl, rfl, rfl, by go_num, by omega, by omega, HZ', hO, hE⟩
            case measure => simp [intOf]; omega
          | cons l0 out =>
            have HN : Hd (sbX (tz cur (l0 :: out)) ++ ⟨#[125, 32]⟩ = sbX (tz (l0 ++ [.fi cur]) out)) := by unfold Hd; rw [sbX_app, tz_shut]
            have hsh := (unhide hZ).shut
            clear hZl hct hlt hub
            generalize sbX (tz cur (l0 :: out)) = s0 at *
            simp only [List.length_cons] at *
            have hdep : ((out.length + 1 : Nat) : Int) - 1 = (out.length : Int) := by omega
            rcases hsh with ⟨rfl, hz1⟩ | ⟨d, rfl, hd, hz1⟩ | ⟨d, rfl, hd, hz1⟩
            · have HZ' := hide hz1
              clear hz1
              go_wp2_with fail
              go_roundw
              case rel => exact ⟨l0 ++ [.fi cur], out, [], lets, uses, k + 1, by rw [unhide HN], by go_num, rfl, rfl, rfl, by go_num, by omega, by omega, HZ', hO, hE⟩
              case measure => simp [intOf]; omega
            · have HZ' := hide hz1
              clear hz1
              obtain ⟨g, gc, hv, hg1, hcl⟩ := own_one (unhide hO)
              injection hv with hv1 hv2 hv3
              subst hv1 hv3
              have HO' := hide (own_cut0 (unhide hO))
              have hdi : (out.length : Int) < (d : Int) := by omega
              clear hO
              go_wp2_with fail
              go_roundw
              case rel => exact ⟨l0 ++ [.fi cur], out, [], lets, uses, k + 1, by rw [unhide HN], by go_num, rfl, rfl, rfl, by go_num, by omega, by omega, HZ', HO', hE⟩
              case measure => simp [intOf]; omega
            · have HZ' := hide hz1
              clear hz1
              obtain ⟨g, gc, hv, hg1, hcl⟩ := own_one (unhide hO)
              injection hv with hv1 hv2 hv3
              subst hv1 hv3
              have hdi : (d : Int) ≤ (out.length : Int) := by omega
              go_wp2_with fail
              go_roundw
              case rel => exact ⟨l0 ++ [.fi cur], out, [(d : Int)], lets, uses, k + 1, by rw [unhide HN], by go_num, rfl, rfl, rfl, by go_num, by omega, by omega, HZ', hO, hE⟩
              case measure => simp [intOf]; omega
        · -- a let
          have HN : Hd (sbX (tz cur out) ++ ⟨#[108, 101, 116, 32, 120, 32, 61, 32, 49, 32, 59, 32]⟩ = sbX (tz (cur ++ [.lt]) out)) := by unfold Hd; rw [sbX_app, tz_let]
          have hz1 := (unhide hZ).letx
          clear hZl hct
          generalize sbX (tz cur out) = s0 at *
          rcases seen with _ | ⟨y, seen⟩
          · have HZ' : Hd (ZI (k + 1) (cur ++ [.lt]) out [(out.length : Int)] (lets + 1) uses true) := hz1
            clear hz1
            simp only [List.length_nil] at *
            go_wp2_with (at_builtin; (refine wpList_append_own _ rfl _ _ 22 rfl w.heap.size 3 i0 (.int .i64 0) 1 8 Tryz.underlying22 (unhide HI) (unhide Z0) (unhide Z1) (unhide Z2) rfl (by decide) _ 0 _ rfl ((unhide hO).alloc _) _ 1 1 [.int .i64 (out.length : Int)] rfl rfl (sb_new wr _ (by simp) _ _) (sb_one _) ?c3 ?c4 ?c5 ?_))
            case c3 => unfold maxLen; omega
            case c4 => omega
            case c5 => exact Nat.le_trans (unhide hE).size (Ext.alloc _ _).size
            intro v' w1 hown' hgrow _
            have R1 : Hd (w1.ownsRow w.heap.size 3 1 v' 1 (sbI [(out.length : Int)])) := hown'
            have R2 : Hd (Ext w w1) := sb_below ((unhide hO).alloc _) ((unhide hE).trans (Ext.alloc _ _)) (Nat.le_refl _) hgrow
            clear hown' hgrow hE hO
            go_wp2_with fail
            go_roundw
            case rel => exact ⟨cur ++ [.lt], out, [(out.length : Int)], lets + 1, uses, k + 1, by rw [unhide HN], rfl, by go_num, rfl, rfl, by go_num, by omega, by omega, HZ', R1, R2⟩
            case measure => simp [intOf]; omega
          · have HZ' : Hd (ZI (k + 1) (cur ++ [.lt]) out (y :: seen ++ [(out.length : Int)]) (lets + 1) uses false) := hz1
            clear hz1
            simp only [List.length_cons] at *
            have hsl : seen.length ≤ 1000 := by
              rcases (unhide hZ).sn rfl with ⟨_, h⟩ | ⟨_, d, h, _⟩
              · cases h
              · injection h with h1 h2; subst h2; simp
            have hnz : (((seen.length + 1 : Nat) : Int) == 0) = false := by rw [beq_eq_false_iff_ne]; omega
            clear hZ
            go_wp2_with (at_builtin; (refine wpList_append_own _ rfl _ _ 22 rfl w.heap.size 3 i0 (.int .i64 0) 1 8 Tryz.underlying22 (unhide HI) (unhide Z0) (unhide Z1) (unhide Z2) rfl (by decide) _ (seen.length + 1) _ rfl ((unhide hO).alloc _) _ 1 1 [.int .i64 (out.length : Int)] rfl rfl (sb_new wr _ (by simp) _ _) (sb_one _) ?c3 ?c4 ?c5 ?_))
            case c3 => unfold maxLen; omega
            case c4 => omega
            case c5 => exact Nat.le_trans (unhide hE).size (Ext.alloc _ _).size
            intro v' w1 hown' hgrow _
            have R2 : Hd (Ext w w1) := sb_below ((unhide hO).alloc _) ((unhide hE).trans (Ext.alloc _ _)) (Nat.le_refl _) hgrow
            clear hown' hgrow hE hO
            go_wp2_with fail
            have HS0 : Hd (ShI (shutZ (cur ++ [.lt]) out) (bCL (cur ++ [.lt]) + czO out) (cur ++ [.lt]) out) := ⟨rfl, rfl, by have := (unhide HZ').deep; omega⟩
            obtain ⟨ZZ, hZZ⟩ : ∃ ZZ, ZZ = shutZ (cur ++ [.lt]) out := ⟨_, rfl⟩
            obtain ⟨NN, hNN⟩ : ∃ NN, NN = bCL (cur ++ [.lt]) + czO out := ⟨_, rfl⟩
            have hNb : NN ≤ 31 := by have := (unhide HZ').cnt; omega
            have HSB := hide (sb_src (unhide HZ') (by omega))
            rw [← hZZ] at HSB
            rw [← hZZ, ← hNN] at HS0
            clear hZZ hNN
            have HZl : Hd ((sbX (sbT ZZ)).size ≤ 1000) := by
              have h0 := sbT_len ZZ
              have h1 := shut_count out (cur ++ [.lt])
              have h2 := (unhide HS0).ct
              have h3 := (unhide HS0).sh
              unfold Hd
              rw [sbX_size]
              rw [h3] at h1
              omega
            go_loopw [3, 4] (fun s d wq => ∃ (cz : List BS) (oz : List (List BS)), s = .string (sbX (tz cz oz)) ∧ d = .int .i64 (oz.length : Int) ∧ Hd (ShI ZZ NN cz oz) ∧ Hd (Ext w wq)) (fun _ d _ => (intOf d).toNat)
            case atStart => exact ⟨cur ++ [.lt], out, by rw [unhide HN], rfl, HS0, R2⟩
            case round =>
              obtain ⟨cz, oz, rfl, rfl, hS, hEq⟩ := hrel
              have hsz : (sbX (tz cz oz)).size ≤ 1000 := by
                have := tz_len cz oz
                have := (unhide hS).ct
                rw [sbX_size]
                omega
              cases oz with
              | cons l1 oz =>
                have HM : Hd (sbX (tz cz (l1 :: oz)) ++ ⟨#[125, 32]⟩ = sbX (tz (l1 ++ [.fi cz]) oz)) := by unfold Hd; rw [sbX_app, tz_shut]
                have HS' := hide (unhide hS).shut
                generalize sbX (tz cz (l1 :: oz)) = s1 at *
                have hdep : ((oz.length + 1 : Nat) : Int) - 1 = (oz.length : Int) := by omega
                have hdb : oz.length + 1 ≤ 15 := (unhide hS).dp
                simp only [List.length_cons] at *
                go_wp2_with fail
                go_roundw
                case rel => exact ⟨l1 ++ [.fi cz], oz, by rw [unhide HM], by go_num, HS', hEq⟩
                case measure => simp [intOf]
              | nil =>
                have HM : Hd (sbX (tz cz []) ++ ⟨#[125]⟩ = sbX (sbT ZZ)) := by
                  have h0 := (unhide hS).sh
                  rw [shutZ] at h0
                  unfold Hd
                  rw [sbX_app, ← h0, ← tz_end]
                obtain ⟨q1, q2, q3⟩ := unhide HSB
                have HSc := hide (unhide HSr wr (unhide hEq) (sbX (sbT ZZ)) _ (by have := unhide HZl; omega) q1 (q2 rfl))
                clear q1 q2 q3 HSB
                generalize sbX (sbT ZZ) = ss at *
                generalize sbX (tz cz []) = s1 at *
                simp only [List.length_nil] at *
                go_wp2_with (first
                  | (go_at_call 4; rw [unhide HM]; refine Calls.mono (unhide HSc) ?_; rintro e w2 ⟨hX, a1, cap1, b1, capb, rfl, _, _, _, _⟩; have X2 := hide ((unhide hEq).trans hX); clear hX)
                  | (go_at_call 5; refine Calls.mono (unhide HAw _ (unhide X2)) ?_; rintro e w4 ⟨rfl, hX⟩; have X4 := hide ((unhide X2).trans hX); clear hX))
                go_ret
                exact ⟨rfl, unhide X4⟩
        · -- a use
          have HN : Hd (sbX (tz cur out) ++ ⟨#[112, 114, 105, 110, 116, 32, 120, 32, 59, 32]⟩ = sbX (tz (cur ++ [.us]) out)) := by unfold Hd; rw [sbX_app, tz_use]
          have hz1 := (unhide hZ).usex
          clear hZl hct
          generalize sbX (tz cur out) = s0 at *
          rcases seen with _ | ⟨y, seen⟩
          · have HZ' : Hd (ZI (k + 1) (cur ++ [.us]) out [] lets (uses + 1) false) := hz1
            clear hz1
            simp only [List.length_nil] at *
            clear hZ
            have R2 := hE
            go_wp2_with fail
            have HS0 : Hd (ShI (shutZ (cur ++ [.us]) out) (bCL (cur ++ [.us]) + czO out) (cur ++ [.us]) out) := ⟨rfl, rfl, by have := (unhide HZ').deep; omega⟩
            obtain ⟨ZZ, hZZ⟩ : ∃ ZZ, ZZ = shutZ (cur ++ [.us]) out := ⟨_, rfl⟩
            obtain ⟨NN, hNN⟩ : ∃ NN, NN = bCL (cur ++ [.us]) + czO out := ⟨_, rfl⟩
            have hNb : NN ≤ 31 := by have := (unhide HZ').cnt; omega
            have HSB := hide (sb_src (unhide HZ') (by omega))
            rw [← hZZ] at HSB
            rw [← hZZ, ← hNN] at HS0
            clear hZZ hNN
            have HZl : Hd ((sbX (sbT ZZ)).size ≤ 1000) := by
              have h0 := sbT_len ZZ
              have h1 := shut_count out (cur ++ [.us])
              have h2 := (unhide HS0).ct
              have h3 := (unhide HS0).sh
              unfold Hd
              rw [sbX_size]
              rw [h3] at h1
              omega
            go_loopw [3, 4] (fun s d wq => ∃ (cz : List BS) (oz : List (List BS)), s = .string (sbX (tz cz oz)) ∧ d = .int .i64 (oz.length : Int) ∧ Hd (ShI ZZ NN cz oz) ∧ Hd (Ext w wq)) (fun _ d _ => (intOf d).toNat)
            case atStart => exact ⟨cur ++ [.us], out, by rw [unhide HN], rfl, HS0, R2⟩
            case round =>
              obtain ⟨cz, oz, rfl, rfl, hS, hEq⟩ := hrel
              have hsz : (sbX (tz cz oz)).size ≤ 1000 := by
                have := tz_len cz oz
                have := (unhide hS).ct
                rw [sbX_size]
                omega
              cases oz with
              | cons l1 oz =>
                have HM : Hd (sbX (tz cz (l1 :: oz)) ++ ⟨#[125, 32]⟩ = sbX (tz (l1 ++ [.fi cz]) oz)) := by unfold Hd; rw [sbX_app, tz_shut]
                have HS' := hide (unhide hS).shut
                generalize sbX (tz cz (l1 :: oz)) = s1 at *
                have hdep : ((oz.length + 1 : Nat) : Int) - 1 = (oz.length : Int) := by omega
                have hdb : oz.length + 1 ≤ 15 := (unhide hS).dp
                simp only [List.length_cons] at *
                go_wp2_with fail
                go_roundw
                case rel => exact ⟨l1 ++ [.fi cz], oz, by rw [unhide HM], by go_num, HS', hEq⟩
                case measure => simp [intOf]
              | nil =>
                have HM : Hd (sbX (tz cz []) ++ ⟨#[125]⟩ = sbX (sbT ZZ)) := by
                  have h0 := (unhide hS).sh
                  rw [shutZ] at h0
                  unfold Hd
                  rw [sbX_app, ← h0, ← tz_end]
                obtain ⟨q1, q2, q3⟩ := unhide HSB
                have HSc := hide (unhide HSr wr (unhide hEq) (sbX (sbT ZZ)) _ (by have := unhide HZl; omega) q1 (q2 rfl))
                clear q1 q2 q3 HSB
                generalize sbX (sbT ZZ) = ss at *
                generalize sbX (tz cz []) = s1 at *
                simp only [List.length_nil] at *
                go_wp2_with (first
                  | (go_at_call 4; rw [unhide HM]; refine Calls.mono (unhide HSc) ?_; rintro e w2 ⟨hX, a1, cap1, b1, capb, rfl, _, _, _, _⟩; have X2 := hide ((unhide hEq).trans hX); clear hX)
                  | (go_at_call 5; refine Calls.mono (unhide HAw _ (unhide X2)) ?_; rintro e w4 ⟨rfl, hX⟩; have X4 := hide ((unhide X2).trans hX); clear hX))
                go_ret
                exact ⟨rfl, unhide X4⟩
          · have HZ' : Hd (ZI (k + 1) (cur ++ [.us]) out (y :: seen) lets (uses + 1) true) := hz1
            clear hz1
            have HLn : Hd ((y :: seen).length = seen.length + 1) := rfl
            have hnz : (0 : Int) < ((seen.length + 1 : Nat) : Int) := by omega
            have hsl : seen.length ≤ 1000 := by
              rcases (unhide hZ).sn rfl with ⟨_, h⟩ | ⟨_, d, h, _⟩
              · cases h
              · injection h with h1 h2; subst h2; simp
            rw [unhide HLn] at *
            go_wp2_with fail
            go_roundw
            case rel => exact ⟨cur ++ [.us], out, y :: seen, lets, uses + 1, k + 1, by rw [unhide HN], rfl, rfl, by go_num, rfl, by go_num, by omega, by omega, HZ', hO, hE⟩
            case measure => simp [intOf]; omega
      · obtain rfl : k = 30 := by omega
        have HZ' := hZ
        have R2 := hE
        clear hZl hct
        generalize hs0' : sbX (tz cur out) = s0 at *
        have HN := hide hs0'
        clear hs0'
        go_wp2_with fail
        have HS0 : Hd (ShI (shutZ (cur) out) (bCL (cur) + czO out) (cur) out) := ⟨rfl, rfl, by have := (unhide HZ').deep; omega⟩
        obtain ⟨ZZ, hZZ⟩ : ∃ ZZ, ZZ = shutZ (cur) out := ⟨_, rfl⟩
        obtain ⟨NN, hNN⟩ : ∃ NN, NN = bCL (cur) + czO out := ⟨_, rfl⟩
        have hNb : NN ≤ 31 := by have := (unhide HZ').cnt; omega
        have HSB := hide (sb_src (unhide HZ') (by omega))
        rw [← hZZ] at HSB
        rw [← hZZ, ← hNN] at HS0
        clear hZZ hNN
        have HZl : Hd ((sbX (sbT ZZ)).size ≤ 1000) := by
          have h0 := sbT_len ZZ
          have h1 := shut_count out (cur)
          have h2 := (unhide HS0).ct
          have h3 := (unhide HS0).sh
          unfold Hd
          rw [sbX_size]
          rw [h3] at h1
          omega
        go_loopw [3, 4] (fun s d wq => ∃ (cz : List BS) (oz : List (List BS)), s = .string (sbX (tz cz oz)) ∧ d = .int .i64 (oz.length : Int) ∧ Hd (ShI ZZ NN cz oz) ∧ Hd (Ext w wq)) (fun _ d _ => (intOf d).toNat)
        case atStart => exact ⟨cur, out, by rw [unhide HN], rfl, HS0, R2⟩
        case round =>
          obtain ⟨cz, oz, rfl, rfl, hS, hEq⟩ := hrel
          have hsz : (sbX (tz cz oz)).size ≤ 1000 := by
            have := tz_len cz oz
            have := (unhide hS).ct
            rw [sbX_size]
            omega
          cases oz with
          | cons l1 oz =>
            have HM : Hd (sbX (tz cz (l1 :: oz)) ++ ⟨#[125, 32]⟩ = sbX (tz (l1 ++ [.fi cz]) oz)) := by unfold Hd; rw [sbX_app, tz_shut]
            have HS' := hide (unhide hS).shut
            generalize sbX (tz cz (l1 :: oz)) = s1 at *
            have hdep : ((oz.length + 1 : Nat) : Int) - 1 = (oz.length : Int) := by omega
            have hdb : oz.length + 1 ≤ 15 := (unhide hS).dp
            simp only [List.length_cons] at *
            go_wp2_with fail
            go_roundw
            case rel => exact ⟨l1 ++ [.fi cz], oz, by rw [unhide HM], by go_num, HS', hEq⟩
            case measure => simp [intOf]
          | nil =>
            have HM : Hd (sbX (tz cz []) ++ ⟨#[125]⟩ = sbX (sbT ZZ)) := by
              have h0 := (unhide hS).sh
              rw [shutZ] at h0
              unfold Hd
              rw [sbX_app, ← h0, ← tz_end]
            obtain ⟨q1, q2, q3⟩ := unhide HSB
            obtain ⟨p, q4, q5, q6⟩ := q3 rfl
            have HSc := hide (unhide HSr wr (unhide hEq) (sbX (sbT ZZ)) _ (by have := unhide HZl; omega) q1 q4)
            clear q1 q2 q3 q4 HSB
            generalize sbX (sbT ZZ) = ss at *
            generalize sbX (tz cz []) = s1 at *
            simp only [List.length_nil] at *
            go_wp2_with (first
              | (go_at_call 4; rw [unhide HM]; refine Calls.mono (unhide HSc) ?_; rintro e w2 ⟨hX, a1, cap1, b1, capb, rfl, _, _, hc, hr⟩; have X2 := hide ((unhide hEq).trans hX); obtain ⟨bb2, sa2, sc2, ca2, cc2, rfl, f0, f1, f2, _, _⟩ := sc_first hr; rw [q5] at f0; rw [q6] at f1; have hcp : 1 ≤ capb := hc; clear hX hr hc)
              | (go_at_call 5; refine Calls.mono (unhide HAw _ (unhide X2)) ?_; rintro e w4 ⟨rfl, hX⟩; have X4 := hide ((unhide X2).trans hX); clear hX))
            go_ret
            exact ⟨rfl, unhide X4⟩
    · obtain rfl : k = l.length := by omega
      have HZ' := hZ
      have R2 := hE
      clear hZl hct
      generalize hs0' : sbX (tz cur out) = s0 at *
      have HN := hide hs0'
      clear hs0'
      go_wp2_with fail
      have HS0 : Hd (ShI (shutZ (cur) out) (bCL (cur) + czO out) (cur) out) := ⟨rfl, rfl, by have := (unhide HZ').deep; omega⟩
      obtain ⟨ZZ, hZZ⟩ : ∃ ZZ, ZZ = shutZ (cur) out := ⟨_, rfl⟩
      obtain ⟨NN, hNN⟩ : ∃ NN, NN = bCL (cur) + czO out := ⟨_, rfl⟩
      have hNb : NN ≤ 31 := by have := (unhide HZ').cnt; omega
      have HSB := hide (sb_src (unhide HZ') (by omega))
      rw [← hZZ] at HSB
      rw [← hZZ, ← hNN] at HS0
      clear hZZ hNN
      have HZl : Hd ((sbX (sbT ZZ)).size ≤ 1000) := by
        have h0 := sbT_len ZZ
        have h1 := shut_count out (cur)
        have h2 := (unhide HS0).ct
        have h3 := (unhide HS0).sh
        unfold Hd
        rw [sbX_size]
        rw [h3] at h1
        omega
      go_loopw [3, 4] (fun s d wq => ∃ (cz : List BS) (oz : List (List BS)), s = .string (sbX (tz cz oz)) ∧ d = .int .i64 (oz.length : Int) ∧ Hd (ShI ZZ NN cz oz) ∧ Hd (Ext w wq)) (fun _ d _ => (intOf d).toNat)
      case atStart => exact ⟨cur, out, by rw [unhide HN], rfl, HS0, R2⟩
      case round =>
        obtain ⟨cz, oz, rfl, rfl, hS, hEq⟩ := hrel
        have hsz : (sbX (tz cz oz)).size ≤ 1000 := by
          have := tz_len cz oz
          have := (unhide hS).ct
          rw [sbX_size]
          omega
        cases oz with
        | cons l1 oz =>
          have HM : Hd (sbX (tz cz (l1 :: oz)) ++ ⟨#[125, 32]⟩ = sbX (tz (l1 ++ [.fi cz]) oz)) := by unfold Hd; rw [sbX_app, tz_shut]
          have HS' := hide (unhide hS).shut
          generalize sbX (tz cz (l1 :: oz)) = s1 at *
          have hdep : ((oz.length + 1 : Nat) : Int) - 1 = (oz.length : Int) := by omega
          have hdb : oz.length + 1 ≤ 15 := (unhide hS).dp
          simp only [List.length_cons] at *
          go_wp2_with fail
          go_roundw
          case rel => exact ⟨l1 ++ [.fi cz], oz, by rw [unhide HM], by go_num, HS', hEq⟩
          case measure => simp [intOf]
        | nil =>
          have HM : Hd (sbX (tz cz []) ++ ⟨#[125]⟩ = sbX (sbT ZZ)) := by
            have h0 := (unhide hS).sh
            rw [shutZ] at h0
            unfold Hd
            rw [sbX_app, ← h0, ← tz_end]
          obtain ⟨q1, q2, q3⟩ := unhide HSB
          obtain ⟨p, q4, q5, q6⟩ := q3 rfl
          have HSc := hide (unhide HSr wr (unhide hEq) (sbX (sbT ZZ)) _ (by have := unhide HZl; omega) q1 q4)
          clear q1 q2 q3 q4 HSB
          generalize sbX (sbT ZZ) = ss at *
          generalize sbX (tz cz []) = s1 at *
          simp only [List.length_nil] at *
          go_wp2_with (first
            | (go_at_call 4; rw [unhide HM]; refine Calls.mono (unhide HSc) ?_; rintro e w2 ⟨hX, a1, cap1, b1, capb, rfl, _, _, hc, hr⟩; have X2 := hide ((unhide hEq).trans hX); obtain ⟨bb2, sa2, sc2, ca2, cc2, rfl, f0, f1, f2, _, _⟩ := sc_first hr; rw [q5] at f0; rw [q6] at f1; have hcp : 1 ≤ capb := hc; clear hX hr hc)
            | (go_at_call 5; refine Calls.mono (unhide HAw _ (unhide X2)) ?_; rintro e w4 ⟨rfl, hX⟩; have X4 := hide ((unhide X2).trans hX); clear hX))
          go_ret
          exact ⟨rfl, unhide X4⟩

end Go.Proofs.YtjeledllejlpcaaGreatDoor
