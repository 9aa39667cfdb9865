/- Two rows of the same numbers are the same. · The walk of the law ScopeSlots. -/
import Derived.Test.YteajjfhehicfgaaGreatDoorZb16
set_option linter.unusedSimpArgs false
set_option linter.unusedVariables false
set_option maxRecDepth 10000

namespace Go.Proofs.YteajjfhehicfgaaGreatDoor
open Go.RowKit Go.Maps

theorem ext_drewS (w : World) (n : Nat) : Ext w (w.drewN n) := by
  induction n with
  | zero => exact Ext.refl _
  | succ n ih => exact Ext.drew ih

set_option maxHeartbeats 1000000 in
theorem sameInts_w (l : List Int) (a b : Option Addr) (ca cb : Nat) (F F' : Nat → Prop) (w : World) (h1 : RepI w F a l) (h2 : RepI w F' b l) (hl : l.length ≤ 1000) :
    Calls Tryz.prog 8 #[.slice a l.length ca, .slice b l.length cb] w fun e w' => e = .returned (.bool true) ∧ Ext w w' := by
  go_enter Tryz.func8, Tryz.ntmps8
  go_wp2_with fail
  go_loopw [5] (fun t wr => ∃ j : Nat, t = .int .i64 j ∧ j ≤ l.length ∧ Hd (Ext w wr)) (fun t _ => l.length - (intOf t).toNat)
  case atStart => exact ⟨0, rfl, by omega, Ext.refl w⟩
  case round =>
    obtain ⟨j, rfl, hj, hw⟩ := hrel
    by_cases hlt : j < l.length
    · obtain ⟨x, hx⟩ : ∃ x, l[j]? = some x := ⟨_, List.getElem?_eq_getElem hlt⟩
      have hne : l ≠ [] := by rintro rfl; simp at hlt
      rcases h1 with h1 | ⟨b1, rfl, _, c1⟩
      · exact absurd h1 hne
      rcases h2 with h2 | ⟨b2, rfl, _, c2⟩
      · exact absurd h2 hne
      have d1 := (unhide hw).cell (c1 j x hx)
      have d2 := (unhide hw).cell (c2 j x hx)
      clear c1 c2 hx
      go_wp2_with fail
      go_quiet (fail)
      go_wp2_with fail
      go_roundw
      case rel => exact ⟨j + 1, by go_num, by omega, (unhide hw).trans (ext_drewS _ _)⟩
      case measure => simp [intOf]; omega
    · have hje : j = l.length := by omega
      subst hje
      go_wp2_with fail
      go_ret
      exact ⟨rfl, unhide hw⟩

end Go.Proofs.YteajjfhehicfgaaGreatDoor

namespace Go.Proofs.YteajjfhehicfgaaGreatDoor
open Go.RowKit Go.Maps

def tx (l : List UInt8) : ByteArray := ⟨l.toArray⟩
theorem tx_app (l : List UInt8) (a : Array UInt8) : tx l ++ ⟨a⟩ = tx (l ++ a.toList) := by
  apply ByteArray.ext
  rw [ByteArray.data_append]
  apply Array.ext'
  simp [tx]
theorem tx_size (l : List UInt8) : (tx l).size = l.length := by simp [tx, ByteArray.size]
theorem slA_len (k : Nat) : (slA k).length ≤ 7 + 5 * k := by
  induction k with
  | zero => decide
  | succ k ih => rw [slA, List.length_append, List.length_append]; split <;> simp <;> omega
theorem ltr_nat (i : Nat) (h : i < 26) : (ltr i).toNat = 97 + i := by
  unfold ltr
  rw [UInt8.toNat_ofNat']
  exact Nat.mod_eq_of_lt (by omega)
theorem two_text (W : World) (c : UInt8) (i : Nat) (h : i < 26) (x y : Int) (hx : x = (c.toNat : Int)) (hy : y = 97 + (i : Int)) : (convert 22 9 (.slice (some ⟨W.heap.size, 0, none⟩) 2 2)).run Tryz.prog (W.alloc (.cells #[.int .u8 x, .int .u8 y] 5)) = .ok (.string ⟨#[c, ltr i]⟩) (W.alloc (.cells #[.int .u8 x, .int .u8 y] 5)) := by
  have hb : [Value.int .u8 x, Value.int .u8 y] = [c, ltr i].map B := by
    simp only [List.map_cons, List.map_nil, B, ltr_nat i h, hx, hy]
    rfl
  refine run_text_of_row (base := W.heap.size) (l := [c, ltr i]) ?_
  rw [← hb]
  exact ⟨rfl, .inr ⟨W.heap.size, 2, #[.int .u8 x, .int .u8 y], rfl, Nat.le_refl _, heap_alloc_new _ _, Nat.le_refl _, by unfold maxLen; omega, rfl, rfl⟩⟩

theorem slB_len (t : List UInt8) (k : Nat) : (slB t k).length ≤ t.length + 4 + 13 * k := by
  induction k with
  | zero => simp [slB]
  | succ k ih => rw [slB, List.length_append]; simp; omega
theorem own_below {base k : Nat} {w W w1 : World} {t : Value} {xs : List Value} (ho : W.ownsRow base 3 1 t k xs) (hb : Below base w W) (hbase : base ≤ w.heap.size) (hgrow : W.grownBy w1 t.ownBlock) : Below base w w1 := by
  refine hb.grown hgrow (Nat.le_trans hbase hb.size) ?_
  intro j hj
  obtain ⟨_, h | ⟨g, cap, cur, h, hg, _⟩⟩ := ho
  · rw [h.1] at hj; cases hj
  · rw [h] at hj; cases hj; exact hg
theorem new_cells (W : World) (b : Nat) (hb : b = W.heap.size) (xs : List Value) (t : TypeId) : ∀ (j : Nat) (u : Value), xs[j]? = some u → (W.alloc (.cells xs.toArray t)).cell? ((⟨b, 0, none⟩ : Addr).add j) = some u := by
  subst hb
  exact cells_new W xs.toArray t
def wB (n k : Nat) : List Int := (List.range k).map (fun i => ((n + i : Nat) : Int))
theorem wB_succ (n k : Nat) : nms (wB n (k + 1)) = nms (wB n k) ++ [.int .i64 ((n : Int) + (k : Int))] := by
  simp [wB, nms, List.range_succ]
theorem slC_len (t : List UInt8) (m k : Nat) : (slC t m k).length ≤ t.length + 11 * k := by
  induction k with
  | zero => simp [slC]
  | succ k ih => rw [slC, List.length_append]; simp; omega
theorem slD_len (t : List UInt8) (m k : Nat) : (slD t m k).length ≤ t.length + 10 * k := by
  induction k with
  | zero => simp [slD]
  | succ k ih => rw [slD, List.length_append]; simp; omega
def wC (n m k : Nat) : List Int := (List.range k).map (fun i => ((n + (m - 1 - i) : Nat) : Int))
theorem wC_succ (l : List Int) (n m k p : Nat) (h : m - 1 - k = p) : nms (l ++ wC n m (k + 1)) = nms (l ++ wC n m k) ++ [.int .i64 ((n : Int) + (p : Int))] := by
  subst h
  simp [wC, nms, List.range_succ]
def wD (n k : Nat) : List Int := (List.range k).flatMap (fun k => [((n - 1 - k : Nat) : Int), (k : Int)])
theorem wD_succ (l : List Int) (n k p : Nat) (h : n - 1 - k = p) : nms (l ++ wD n (k + 1)) = nms (l ++ wD n k) ++ [.int .i64 (p : Int), .int .i64 (k : Int)] := by
  subst h
  simp [wD, nms, List.range_succ]
theorem two_int (a b : Int) : ∀ u ∈ [Value.int .i64 a, Value.int .i64 b], u.oneCell' = true := by
  intro u hu
  simp at hu
  rcases hu with rfl | rfl <;> rfl
theorem own_ints {W : World} {base n : Nat} {v : Value} {l : List Int} (h : W.ownsRow base 3 1 v n (nms l)) : ∃ b cb, v = .slice b l.length cb ∧ RepI W (fun b => base ≤ b ∧ b < W.heap.size) b l := by
  obtain ⟨hl, ⟨rfl, h0⟩ | ⟨g, cap, cur, rfl, hg, hrow, _⟩⟩ := id h
  · have h1 : l.length = 0 := by rw [h0] at hl; simpa [nms] using hl
    obtain rfl := List.length_eq_zero_iff.1 h1
    exact ⟨none, 0, rfl, Or.inl rfl⟩
  · have h1 : n = l.length := by simpa [nms] using hl.symm
    subst h1
    refine ⟨some ⟨g, 0, none⟩, cap, rfl, Or.inr ⟨g, rfl, ⟨hg, (Array.getElem?_eq_some_iff.1 hrow).1⟩, fun j x hx => ?_⟩⟩
    have hj : j < l.length := (List.getElem?_eq_some_iff.1 hx).1
    rw [h.cellAt j (by omega)]
    simp [nms, hx]
theorem slOk_gives (n m : Nat) (h : slOk n m = true) : ∃ fs z pl, (begP (slS n m)).ts.length < 400 ∧ srcP (slS n m) 400 10000 = some ⟨fs, [⟨(n : Int) + (m : Int), slW n m, []⟩, z], pl, 0⟩ := by
  unfold slOk at h
  rw [Bool.and_eq_true] at h
  obtain ⟨h1, h2⟩ := h
  split at h2
  · rename_i fs lc sl cl z pl e hq
    simp only [Bool.and_eq_true, beq_iff_eq, List.isEmpty_iff] at h2
    obtain ⟨⟨⟨rfl, rfl⟩, rfl⟩, rfl⟩ := h2
    exact ⟨fs, z, pl, of_decide_eq_true h1, by rw [hq]; simp⟩
  · cases h2
theorem slS_small (n m : Nat) (hn : n < 9) (hm : m < 21) : (slS n m).size ≤ 140737488355328 := by
  have h1 := slD_len (slC (slB (slA n) m) m m) n n
  have h2 := slC_len (slB (slA n) m) m m
  have h3 := slB_len (slA n) m
  have h4 := slA_len n
  have h5 : (slS n m).size = (slT n m).length := tx_size _
  rw [h5, slT, List.length_append]
  simp
  omega
theorem slW_len (n m : Nat) (hn : n < 9) (hm : m < 21) : (slW n m).length ≤ 1000 := by
  have h : ∀ n, n < 9 → ((List.range n).flatMap (fun k => [((n - 1 - k : Nat) : Int), (k : Int)])).length ≤ 16 := by decide
  have h := h n hn
  unfold slW
  rw [List.length_append, List.length_append]
  generalize ((List.range n).flatMap (fun k => [((n - 1 - k : Nat) : Int), (k : Int)])).length = z at *
  simp
  omega

set_option maxHeartbeats 1000000 in
theorem slots_walk0 (a0 a1 : Int) (w : World) (n m : Nat) (hn : (bits .and .i64 a0 65535).tmod 9 = n) (hm : (bits .and .i64 a1 65535).tmod 21 = m) (hn1 : n < 9) (hm1 : m < 21) (he : Er w) (hOx : Opx w) (hTb : Tbl w) (hok : ∀ n m, n < 9 → m < 21 → slOk n m = true) :
    Calls Tryz.prog 3 #[.int .i64 a0, .int .i64 a1] w fun e w' => e = .returned (.bool true) ∧ Ext w w' := by
  have HAw := hide (fun (W : World) (x : Ext w W) => awake_w W (he.on x) (hOx.ext x) (hTb.ext x))
  have HEr := hide he
  have HOp := hide hOx
  have HTb := hide hTb
  clear he hOx hTb
  obtain ⟨i0, hi, hz0, hz1, hz2⟩ := info_parts infoI
  have HI := hide hi
  have Z0 := hide hz0
  have Z1 := hide hz1
  have Z2 := hide hz2
  clear hi hz0 hz1 hz2
  go_enter Tryz.func3, Tryz.ntmps3
  go_wp2_with fail
  go_loopw [5, 6] (fun sv i wr => ∃ (j : Nat), i = .int .i64 j ∧ j ≤ n ∧ sv = .string (tx (slA j)) ∧ Hd (Ext w wr)) (fun _ i _ => n - (intOf i).toNat)
  case atStart => exact ⟨0, rfl, by omega, rfl, Ext.refl w⟩
  case round =>
    obtain ⟨j, rfl, hj, rfl, hE⟩ := hrel
    have hl := slA_len j
    rw [← tx_size] at hl
    by_cases hlt : j < n
    · by_cases h0 : j = 0
      · subst h0
        have hN : tx (slA (0 + 1)) = tx (slA 0) ++ ⟨#[112, ltr 0]⟩ ++ ⟨#[32]⟩ := by kernel_rfl
        have HN := hide hN
        have hcv := two_text wr 112 0 (by omega) 112 97 rfl rfl
        clear hN
        generalize tx (slA 0) = s0 at *
        have hz : (s0 ++ (⟨#[112, ltr 0]⟩ : ByteArray)).size ≤ 100 := by rw [ByteArray.size_append]; show s0.size + 2 ≤ _; omega
        go_wp2_with fail
        go_roundw
        case rel => exact ⟨0 + 1, by go_num, by omega, by rw [unhide HN], (unhide hE).trans (Ext.alloc _ _)⟩
        case measure => simp [intOf]; omega
      · have hN : tx (slA (j + 1)) = tx (slA j) ++ ⟨#[44, 32]⟩ ++ ⟨#[112, ltr j]⟩ ++ ⟨#[32]⟩ := by
          rw [tx_app, tx_app, tx_app, slA, if_pos (by omega)]
          simp
        have HN := hide hN
        have hcv := two_text wr 112 j (by omega) 112 (97 + (j : Int)) rfl rfl
        clear hN
        generalize tx (slA j) = s0 at *
        have hz0 : (s0 ++ (⟨#[44, 32]⟩ : ByteArray)).size ≤ 100 := by rw [ByteArray.size_append]; show s0.size + 2 ≤ _; omega
        have hz : (s0 ++ (⟨#[44, 32]⟩ : ByteArray) ++ (⟨#[112, ltr j]⟩ : ByteArray)).size ≤ 100 := by rw [ByteArray.size_append, ByteArray.size_append]; show s0.size + 2 + 2 ≤ _; omega
        go_wp2_with fail
        go_roundw
        case rel => exact ⟨j + 1, by go_num, by omega, by rw [unhide HN], (unhide hE).trans (Ext.alloc _ _)⟩
        case measure => simp [intOf]; omega
    · obtain rfl : j = n := by omega
      have HN : Hd (tx (slA j) ++ ⟨#[41, 32, 123, 32]⟩ = tx (slB (slA j) 0)) := by unfold Hd; rw [tx_app, slB]
      have hla : Hd ((slA j).length ≤ 50) := by unfold Hd; rw [← tx_size]; omega
      generalize hta : slA j = ta at *
      have HTA := hide hta
      clear hta
      go_wp2_with fail
      rw [unhide HN]
      clear HN hl hlt hj
      go_loopw [5, 7, 8] (fun sv wv i wr => ∃ (k : Nat), i = .int .i64 k ∧ k ≤ m ∧ sv = .string (tx (slB ta k)) ∧ Hd (wr.ownsRow w.heap.size 3 1 wv k (nms (wB j k))) ∧ Hd (Ext w wr)) (fun _ _ i _ => m - (intOf i).toNat)
      case atStart => exact ⟨0, rfl, by omega, rfl, World.ownsRow_nil _ _ _ _, hE⟩
      case round =>
        clear hE
        obtain ⟨k, rfl, hk, rfl, hO, hE⟩ := hrel
        have hl := slB_len ta k
        have hl2 := unhide hla
        rw [← tx_size] at hl
        by_cases hlt : k < m
        · have hN : tx (slB ta (k + 1)) = tx (slB ta k) ++ ⟨#[108, 101, 116, 32]⟩ ++ ⟨#[118, ltr k]⟩ ++ ⟨#[32, 61, 32, 49, 32, 59, 32]⟩ := by
            rw [tx_app, tx_app, tx_app, slB]
            simp
          have HN := hide hN
          have hcv := two_text wr 118 k (by omega) 118 (97 + (k : Int)) rfl rfl
          clear hN
          generalize tx (slB ta k) = s0 at *
          have hz0 : (s0 ++ (⟨#[108, 101, 116, 32]⟩ : ByteArray)).size ≤ 1000 := by rw [ByteArray.size_append]; show s0.size + 4 ≤ _; omega
          have hz : (s0 ++ (⟨#[108, 101, 116, 32]⟩ : ByteArray) ++ (⟨#[118, ltr k]⟩ : ByteArray)).size ≤ 1000 := by rw [ByteArray.size_append, ByteArray.size_append]; show s0.size + 4 + 2 ≤ _; omega
          have hs0 : s0.size ≤ 1000 := by omega
          clear hl hl2
          go_wp2_with (at_builtin; (refine wpList_append_own _ rfl _ _ 23 rfl w.heap.size 3 i0 (.int .i64 0) 1 8 Tryz.underlying23 (unhide HI) (unhide Z0) (unhide Z1) (unhide Z2) rfl (by decide) _ k _ rfl (((unhide hO).alloc _).alloc _) _ 1 1 [.int .i64 ((j : Int) + (k : Int))] rfl rfl (new_cells (wr.alloc _) _ (by simp) _ _) (one_int _) ?c3 ?c4 ?c5 ?_))
          case c3 => unfold maxLen; omega
          case c4 => omega
          case c5 => exact Nat.le_trans (unhide hE).size (Nat.le_trans (Ext.alloc _ _).size (Ext.alloc _ _).size)
          intro v' w1 hown' hgrow _
          rw [← wB_succ] at hown'
          have R1 := hide hown'
          have R2 : Hd (Ext w w1) := own_below (((unhide hO).alloc _).alloc _) (((unhide hE).trans (Ext.alloc _ _)).trans (Ext.alloc _ _)) (Nat.le_refl _) hgrow
          clear hown' hgrow hE hO
          go_wp2_with fail
          go_roundw
          case rel => exact ⟨k + 1, by go_num, by omega, by rw [unhide HN], R1, R2⟩
          case measure => simp [intOf]; omega
        · obtain rfl : k = m := by omega
          have hlb : Hd ((slB ta k).length ≤ 320) := by unfold Hd; rw [← tx_size]; omega
          generalize htb : slB ta k = tb at *
          have HTB := hide htb
          clear htb
          clear hl hl2 hla hlt hk
          go_wp2_with fail
          go_loopw [5, 7, 9] (fun sv wv i wr => ∃ (q : Nat) (x : Int), i = .int .i64 x ∧ x + (q : Int) + 1 = (k : Int) ∧ q ≤ k ∧ sv = .string (tx (slC tb k q)) ∧ Hd (wr.ownsRow w.heap.size 3 1 wv (k + q) (nms (wB j k ++ wC j k q))) ∧ Hd (Ext w wr)) (fun _ _ i _ => (intOf i + 1).toNat)
          case atStart => exact ⟨0, (k : Int) - 1, rfl, by omega, by omega, rfl, by unfold Hd; rw [show wC j k 0 = [] from rfl, List.append_nil]; exact unhide hO, hE⟩
          case round =>
            clear hE hO
            obtain ⟨q, x, rfl, hx, hq, rfl, hO, hE⟩ := hrel
            have hl := slC_len tb k q
            have hl2 := unhide hlb
            rw [← tx_size] at hl
            by_cases hlt : 0 ≤ x
            · obtain ⟨p, rfl⟩ := Int.eq_ofNat_of_zero_le hlt
              have hpq : k - 1 - q = p := by omega
              have hN : tx (slC tb k (q + 1)) = tx (slC tb k q) ++ ⟨#[112, 114, 105, 110, 116, 32]⟩ ++ ⟨#[118, ltr p]⟩ ++ ⟨#[32, 59, 32]⟩ := by
                rw [tx_app, tx_app, tx_app, slC, hpq]
                simp
              have HN := hide hN
              have hcv := two_text wr 118 p (by omega) 118 (97 + (p : Int)) rfl rfl
              clear hN
              generalize tx (slC tb k q) = s0 at *
              have hz0 : (s0 ++ (⟨#[112, 114, 105, 110, 116, 32]⟩ : ByteArray)).size ≤ 1000 := by rw [ByteArray.size_append]; show s0.size + 6 ≤ _; omega
              have hz : (s0 ++ (⟨#[112, 114, 105, 110, 116, 32]⟩ : ByteArray) ++ (⟨#[118, ltr p]⟩ : ByteArray)).size ≤ 1000 := by rw [ByteArray.size_append, ByteArray.size_append]; show s0.size + 6 + 2 ≤ _; omega
              have hs0 : s0.size ≤ 1000 := by omega
              have hp : p < 21 := by omega
              clear hl hl2 hlt
              go_wp2_with (at_builtin; (refine wpList_append_own _ rfl _ _ 23 rfl w.heap.size 3 i0 (.int .i64 0) 1 8 Tryz.underlying23 (unhide HI) (unhide Z0) (unhide Z1) (unhide Z2) rfl (by decide) _ (k + q) _ rfl (((unhide hO).alloc _).alloc _) _ 1 1 [.int .i64 ((j : Int) + (p : Int))] rfl rfl (new_cells (wr.alloc _) _ (by simp) _ _) (one_int _) ?c3 ?c4 ?c5 ?_))
              case c3 => unfold maxLen; omega
              case c4 => omega
              case c5 => exact Nat.le_trans (unhide hE).size (Nat.le_trans (Ext.alloc _ _).size (Ext.alloc _ _).size)
              intro v' w1 hown' hgrow _
              have R1 : Hd (w1.ownsRow w.heap.size 3 1 v' (k + (q + 1)) (nms (wB j k ++ wC j k (q + 1)))) := by
                have h2 : w1.ownsRow w.heap.size 3 1 v' (k + q + 1) (nms (wB j k ++ wC j k (q + 1))) := by
                  rw [wC_succ _ _ _ _ _ hpq]
                  simpa [nms] using hown'
                exact h2
              have R2 : Hd (Ext w w1) := own_below (((unhide hO).alloc _).alloc _) (((unhide hE).trans (Ext.alloc _ _)).trans (Ext.alloc _ _)) (Nat.le_refl _) hgrow
              clear hown' hgrow hE hO
              go_wp2_with fail
              go_roundw
              case rel => exact ⟨q + 1, (p : Int) - 1, by go_num, by omega, by omega, by rw [unhide HN], R1, R2⟩
              case measure => simp [intOf]
            · obtain rfl : x = -1 := by omega
              obtain rfl : q = k := by omega
              have hlc : Hd ((slC tb q q).length ≤ 540) := by unfold Hd; rw [← tx_size]; omega
              generalize htc : slC tb q q = tc at *
              have HTC := hide htc
              clear hl hl2 hlb hlt hq htc hx
              generalize hlw : wB j q ++ wC j q q = lw at *
              have HLW := hide hlw
              clear hlw
              go_wp2_with fail
              go_loopw [5, 7, 10] (fun sv wv i wr => ∃ (r : Nat) (x : Int), i = .int .i64 x ∧ x + (r : Int) + 1 = (j : Int) ∧ r ≤ j ∧ sv = .string (tx (slD tc j r)) ∧ Hd (wr.ownsRow w.heap.size 3 1 wv (q + q + 2 * r) (nms (lw ++ wD j r))) ∧ Hd (Ext w wr)) (fun _ _ i _ => (intOf i + 1).toNat)
              case atStart => exact ⟨0, (j : Int) - 1, rfl, by omega, by omega, rfl, by unfold Hd; rw [show wD j 0 = [] from rfl, List.append_nil]; exact unhide hO, hE⟩
              case round =>
                clear hE hO
                obtain ⟨r, x, rfl, hx, hr, rfl, hO, hE⟩ := hrel
                have hl := slD_len tc j r
                have hl2 := unhide hlc
                rw [← tx_size] at hl
                by_cases hlt : 0 ≤ x
                · obtain ⟨p, rfl⟩ := Int.eq_ofNat_of_zero_le hlt
                  have hpq : j - 1 - r = p := by omega
                  have hpr : (j : Int) - 1 - (p : Int) = (r : Int) := by omega
                  have hN : tx (slD tc j (r + 1)) = tx (slD tc j r) ++ ⟨#[112, ltr p]⟩ ++ ⟨#[32, 61, 32]⟩ ++ ⟨#[112, ltr r]⟩ ++ ⟨#[32, 59, 32]⟩ := by
                    rw [tx_app, tx_app, tx_app, tx_app, slD, hpq]
                    simp
                  have HN := hide hN
                  have hcv := two_text wr 112 p (by omega) 112 (97 + (p : Int)) rfl rfl
                  have hcv2 := two_text (wr.alloc (.cells #[.int .u8 112, .int .u8 (97 + (p : Int))] 5)) 112 r (by omega) 112 (97 + (r : Int)) rfl rfl
                  rw [size_alloc] at hcv2
                  clear hN
                  generalize tx (slD tc j r) = s0 at *
                  have hs0 : s0.size ≤ 1000 := by omega
                  have hz0 : (s0 ++ (⟨#[112, ltr p]⟩ : ByteArray)).size ≤ 1000 := by rw [ByteArray.size_append]; show s0.size + 2 ≤ _; omega
                  have hz1 : (s0 ++ (⟨#[112, ltr p]⟩ : ByteArray) ++ (⟨#[32, 61, 32]⟩ : ByteArray)).size ≤ 1000 := by rw [ByteArray.size_append, ByteArray.size_append]; show s0.size + 2 + 3 ≤ _; omega
                  have hz2 : (s0 ++ (⟨#[112, ltr p]⟩ : ByteArray) ++ (⟨#[32, 61, 32]⟩ : ByteArray) ++ (⟨#[112, ltr r]⟩ : ByteArray)).size ≤ 1000 := by rw [ByteArray.size_append, ByteArray.size_append, ByteArray.size_append]; show s0.size + 2 + 3 + 2 ≤ _; omega
                  have hp : p < 9 := by omega
                  have hr9 : r < 9 := by omega
                  clear hl hl2 hlt
                  go_wp2_with (at_builtin; (refine wpList_append_own _ rfl _ _ 23 rfl w.heap.size 3 i0 (.int .i64 0) 1 8 Tryz.underlying23 (unhide HI) (unhide Z0) (unhide Z1) (unhide Z2) rfl (by decide) _ (q + q + 2 * r) _ rfl ((((unhide hO).alloc _).alloc _).alloc _) _ 2 2 [.int .i64 (p : Int), .int .i64 (r : Int)] rfl rfl (new_cells ((wr.alloc _).alloc _) _ (by simp) _ _) (two_int _ _) ?c3 ?c4 ?c5 ?_))
                  case c3 => unfold maxLen; omega
                  case c4 => omega
                  case c5 => exact Nat.le_trans (unhide hE).size (Nat.le_trans (Ext.alloc _ _).size (Nat.le_trans (Ext.alloc _ _).size (Ext.alloc _ _).size))
                  intro v' w1 hown' hgrow _
                  have R1 : Hd (w1.ownsRow w.heap.size 3 1 v' (q + q + 2 * (r + 1)) (nms (lw ++ wD j (r + 1)))) := by
                    have h2 : w1.ownsRow w.heap.size 3 1 v' (q + q + 2 * r + 2) (nms (lw ++ wD j (r + 1))) := by
                      rw [wD_succ _ _ _ _ hpq]
                      simpa [nms] using hown'
                    exact h2
                  have R2 : Hd (Ext w w1) := own_below ((((unhide hO).alloc _).alloc _).alloc _) ((((unhide hE).trans (Ext.alloc _ _)).trans (Ext.alloc _ _)).trans (Ext.alloc _ _)) (Nat.le_refl _) hgrow
                  clear hown' hgrow hE hO
                  go_wp2_with fail
                  go_roundw
                  case rel => exact ⟨r + 1, (p : Int) - 1, by go_num, by omega, by omega, by rw [unhide HN], R1, R2⟩
                  case measure => simp [intOf]
                · obtain rfl : x = -1 := by omega
                  obtain rfl : r = j := by omega
                  have hS : tx (slD tc r r) ++ ⟨#[125, 32, 102, 110, 32, 109, 97, 105, 110, 32, 40, 32, 41, 32, 123, 32, 125]⟩ = slS r q := by
                    rw [tx_app, ← unhide HTC, ← unhide HTB, ← unhide HTA]
                    rfl
                  have hW : lw ++ wD r r = slW r q := by
                    rw [← unhide HLW]
                    rfl
                  rw [hW] at hO
                  obtain ⟨wb, wcap, rfl, hrep⟩ := own_ints (unhide hO)
                  have HRp := hide hrep
                  obtain ⟨fs, z, pl, g1, g2⟩ := slOk_gives r q (hok r q hn1 hm1)
                  have HSr := hide (source_w (slS r q) 400 10000 wr _ ((unhide HEr).on (unhide hE)) ((unhide HOp).ext (unhide hE)) ((unhide HTb).ext (unhide hE)) (slS_small r q hn1 hm1) g1 (by decide) (by decide) g2)
                  have HSm := hide (fun (W : World) (x : Ext wr W) (sa : Option Addr) (sc : Nat) (F : Nat → Prop) (h : RepI W F sa (slW r q)) => sameInts_w (slW r q) sa wb sc wcap F _ W h ((unhide HRp).to (F' := fun _ => True) (fun b hb => ⟨trivial, x.block b hb.2⟩)) (slW_len r q hn1 hm1))
                  have hs0 : (tx (slD tc r r)).size ≤ 1000 := by omega
                  have HS := hide hS
                  clear hl hl2 hlc hlt hr hx hS hW g1 g2 hrep hO HTC HTB HTA HLW
                  generalize tx (slD tc r r) = s0 at *
                  generalize slS r q = ss at *
                  generalize slW r q = ws at *
                  go_wp2_with (first
                    | (go_at_call 7; rw [unhide HS]; refine Calls.mono (unhide HSr) ?_; rintro e w2 ⟨hX, a1, cap1, b1, capb, rfl, _, _, hc, hr⟩; have X2 := hide hX; obtain ⟨bb, sa, sc, ca, cc, rfl, f0, f1, f2, _, hrp⟩ := sc_first hr; have f2 : w2.cell? ⟨bb, 2, none⟩ = some (.slice ca 0 cc) := f2; have RP := hide hrp; clear hX hr hrp)
                    | (go_at_call 8; refine Calls.mono (unhide HSm _ (unhide X2) _ _ _ (unhide RP)) ?_; rintro e w3 ⟨rfl, hX⟩; have f2 := hX.cell f2; have X3 := hide (((unhide hE).trans (unhide X2)).trans hX); clear hX)
                    | (go_at_call 9; refine Calls.mono (unhide HAw _ (unhide X3)) ?_; rintro e w4 ⟨rfl, hX⟩; have X4 := hide ((unhide X3).trans hX); clear hX))
                  go_ret
                  exact ⟨rfl, unhide X4⟩

end Go.Proofs.YteajjfhehicfgaaGreatDoor
