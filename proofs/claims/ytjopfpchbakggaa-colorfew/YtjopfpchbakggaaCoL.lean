/- The rows that the laws of color build out of what came in: starts rising, registers as they come. -/
import Derived.Test.YtjopfpchbakggaaCoW
set_option linter.unusedSimpArgs false
set_option linter.unusedVariables false
set_option maxRecDepth 10000
namespace Go.Proofs.Ytjopfpchbakggaa
open Go.RowKit

theorem mask_lt (a : Int) (k : Nat) (hk : k < 1000000) : ∃ n : Nat, bits .and .i64 a (k : Int) = n ∧ n ≤ k := by
  have hle : (BitVec.ofInt 64 a &&& BitVec.ofInt 64 (k : Int)).toNat ≤ k := by
    rw [BitVec.toNat_and]
    refine Nat.le_trans Nat.and_le_right ?_
    rw [BitVec.toNat_ofInt]
    omega
  refine ⟨(BitVec.ofInt 64 a &&& BitVec.ofInt 64 (k : Int)).toNat, ?_, hle⟩
  show IntKind.wrap .i64 ((BitVec.ofInt 64 a &&& BitVec.ofInt 64 (k : Int)).toNat : Int) = _
  generalize (BitVec.ofInt 64 a &&& BitVec.ofInt 64 (k : Int)).toNat = n at hle
  rw [IntKind.wrap_i64]
  omega
def m7 (a : Int) : Nat := (bits .and .i64 a 7).toNat
def m31 (a : Int) : Nat := (bits .and .i64 a 31).toNat
theorem m7_eq (a : Int) : bits .and .i64 a 7 = (m7 a : Int) ∧ m7 a ≤ 7 := by
  obtain ⟨n, h1, h2⟩ := mask_lt a 7 (by omega)
  have h1 : bits .and .i64 a 7 = n := h1
  unfold m7
  rw [h1]
  exact ⟨rfl, by omega⟩
theorem m31_eq (a : Int) : bits .and .i64 a 31 = (m31 a : Int) ∧ m31 a ≤ 31 := by
  obtain ⟨n, h1, h2⟩ := mask_lt a 31 (by omega)
  have h1 : bits .and .i64 a 31 = n := h1
  unfold m31
  rw [h1]
  exact ⟨rfl, by omega⟩
def rwA (l : List T3) (i : Nat) : T3 := (l[i]?).getD (0, 0, 0)
/-- Where the first i have come to. -/
def atP (l : List T3) : Nat → Nat
  | 0 => 0
  | i + 1 => atP l i + m7 (rwA l i).2.1
def ivP (l : List T3) (i : Nat) : Iv := ⟨(i : Int), (atP l (i + 1) : Int), ((atP l (i + 1) + m31 (rwA l i).2.2 : Nat) : Int)⟩
def ivsP (l : List T3) (i : Nat) : List Iv := (List.range i).map (ivP l)
theorem atP_le (l : List T3) : ∀ i, atP l i ≤ 7 * i
  | 0 => by simp [atP]
  | i + 1 => by
    have := atP_le l i
    have := (m7_eq (rwA l i).2.1).2
    rw [atP]
    omega
theorem atP_mono (l : List T3) : ∀ {i j : Nat}, i ≤ j → atP l i ≤ atP l j
  | i, 0, h => by
    obtain rfl : i = 0 := by omega
    exact Nat.le_refl _
  | i, j + 1, h => by
    by_cases e : i = j + 1
    · subst e; exact Nat.le_refl _
    · exact Nat.le_trans (atP_mono l (show i ≤ j by omega)) (by rw [atP]; omega)
theorem ivsP_len (l : List T3) (i : Nat) : (ivsP l i).length = i := by simp [ivsP]
theorem ivsP_at {l : List T3} {n k : Nat} (h : k < n) : ivA (ivsP l n) k = ivP l k := by
  unfold ivA ivsP
  rw [List.getElem?_map, List.getElem?_range h]
  rfl
theorem ivsP_ok (l : List T3) (n : Nat) : IvOk (ivsP l n) := by
  refine ⟨fun j k h hk => ?_, fun k hk => ?_⟩
  · rw [ivsP_len] at hk
    rw [ivsP_at (by omega), ivsP_at hk]
    have := atP_mono l (show j + 1 ≤ k + 1 by omega)
    show (atP l (j + 1) : Int) ≤ (atP l (k + 1) : Int)
    omega
  · rw [ivsP_len] at hk
    rw [ivsP_at hk]
    show (atP l (k + 1) : Int) ≤ ((atP l (k + 1) + m31 (rwA l k).2.2 : Nat) : Int)
    omega
theorem ivT_snoc (l : List T3) (i : Nat) : tpV (ivT (ivsP l (i + 1))) = tpV (ivT (ivsP l i)) ++ [Value.int .i64 (i : Int), Value.int .i64 (atP l (i + 1) : Int), Value.int .i64 ((atP l (i + 1) + m31 (rwA l i).2.2 : Nat) : Int)] := by
  unfold ivsP ivT tpV
  rw [List.range_succ, List.map_append, List.map_append, List.flatMap_append]
  rfl
theorem one_tp (x y z : Int) : ∀ u ∈ ([.int .i64 x, .int .i64 y, .int .i64 z] : List Value), u.oneCell' = true := by
  intro u hu
  simp at hu
  rcases hu with rfl | rfl | rfl <;> rfl
theorem own_rep {w : World} {base n : Nat} {e : TypeId} {a : Option Addr} {c : Nat} {T : List T3} (h : w.ownsRow base e 3 (.slice a n c) n (tpV T)) : RepI w (In w) a (tpI T) := by
  rcases id h.2 with ⟨e0, h0⟩ | ⟨g, cap, cur, e0, hb, hg, hn, _⟩
  · left
    have h1 := h.1
    rw [h0, tpV_map, List.length_map] at h1
    exact List.length_eq_zero_iff.1 (by omega)
  · injection e0 with e1 e2 e3
    subst e1 e3
    refine Or.inr ⟨g, 0, rfl, (Array.getElem?_eq_some_iff.1 hg).1, fun j x hx => ?_⟩
    have := h.cells (g := g) rfl j (.int .i64 x) (by rw [tpV_map, List.getElem?_map, hx]; rfl)
    rw [k_add] at this
    rw [Nat.zero_add]
    exact this
theorem own_twoC {w : World} {base base' : Nat} {e e' : TypeId} {size size' n n' : Nat} {v v' : Value} {xs xs' : List Value} (h : w.ownsRow base e size v n xs) (h' : w.ownsRow base' e' size' v' n' xs') (hne : e ≠ e') : v.ownBlock = none ∨ v.ownBlock ≠ v'.ownBlock := by
  rcases h.2 with ⟨rfl, _⟩ | ⟨b, cap, cur, rfl, _, hrow, _⟩
  · exact Or.inl rfl
  · refine Or.inr (fun e1 => ?_)
    rcases h'.2 with ⟨rfl, _⟩ | ⟨b', cap', cur', rfl, _, hrow', _⟩
    · cases e1
    · simp only [Value.ownBlock, Option.some.injEq] at e1
      subst e1
      rw [hrow] at hrow'
      injection hrow' with hrow'
      injection hrow' with _ h2 _
      exact hne h2
theorem grown_ext {w0 w w' : World} {e size n : Nat} {v : Value} {xs : List Value} (hx : Ext w0 w) (ho : w.ownsRow w0.heap.size e size v n xs) (hg : w.grownBy w' v.ownBlock) : Ext w0 w' :=
  ⟨hg.os.trans hx.os, hg.tape.trans hx.tape, hg.output.trans hx.output, Nat.le_trans hx.size hg.size, fun q hq => (hg.block q (Nat.lt_of_lt_of_le hq hx.size) (fun e => by have := (ho.lt q e.symm).1; omega)).trans (hx.block q hq)⟩
theorem k_infoC : ∃ i0, Try.prog.info? 24 = some i0 ∧ i0.zero = some (.agg #[.int .i64 0, .int .i64 0, .int .i64 0]) ∧ i0.size = 3 ∧ i0.bytes = 24 := by
  have h : (Try.prog.info? 24).map (fun i => (i.zero, i.size, i.bytes)) = some (some (.agg #[.int .i64 0, .int .i64 0, .int .i64 0]), 3, 24) := by kernel_rfl
  cases hi : Try.prog.info? 24 with
  | none => rw [hi] at h; cases h
  | some i =>
    rw [hi] at h
    simp at h
    exact ⟨i, rfl, h.1, h.2.1, h.2.2⟩
theorem k_infoRI : ∃ i0, Try.prog.info? 51 = some i0 ∧ i0.zero = some (.agg #[.int .i64 0, .int .i64 0, .int .i64 0]) ∧ i0.size = 3 ∧ i0.bytes = 24 := by
  have h : (Try.prog.info? 51).map (fun i => (i.zero, i.size, i.bytes)) = some (some (.agg #[.int .i64 0, .int .i64 0, .int .i64 0]), 3, 24) := by kernel_rfl
  cases hi : Try.prog.info? 51 with
  | none => rw [hi] at h; cases h
  | some i =>
    rw [hi] at h
    simp at h
    exact ⟨i, rfl, h.1, h.2.1, h.2.2⟩

set_option maxHeartbeats 1500000 in
theorem rows_w (l : List T3) (a : Option Addr) (cap : Nat) (w : World) (hl : l.length ≤ 1000) (hr : RepI w (In w) a (tpI l)) : Calls Try.prog 9 #[.slice a l.length cap] w fun e w' => ∃ aa ac ba bc, e = .returned (.tuple #[.slice aa l.length ac, .slice ba l.length bc]) ∧ RepI w' (In w') aa (tpI (ivT (ivsP l l.length))) ∧ RepI w' (In w') ba (tpI (ivT (ivsP l l.length))) ∧ Ext w w' := by
  obtain ⟨i0, hi, hz0, hz1, hz2⟩ := k_infoC
  obtain ⟨j0, hj, gz0, gz1, gz2⟩ := k_infoRI
  have HI := hide hi
  have Z0 := hide hz0
  have Z1 := hide hz1
  have Z2 := hide hz2
  have HJ := hide hj
  have G0 := hide gz0
  have G1 := hide gz1
  have G2 := hide gz2
  have HR := hide hr
  clear hi hz0 hz1 hz2 hj gz0 gz1 gz2 hr
  go_enter Try.func9, Try.ntmps9
  go_wp2_with fail
  go_loopw [4, 5, 6, 7] (fun t4 t5 t6 t7 wr => ∃ (i : Nat) (aa : Option Addr) (ac : Nat) (ba : Option Addr) (bc : Nat), t7 = .int .i64 i ∧ t6 = .int .i64 (atP l i : Int) ∧ t4 = .slice aa i ac ∧ t5 = .slice ba i bc ∧ i ≤ l.length ∧ Hd (Ext w wr ∧ wr.ownsRow w.heap.size 24 3 (.slice aa i ac) i (tpV (ivT (ivsP l i))) ∧ wr.ownsRow w.heap.size 51 3 (.slice ba i bc) i (tpV (ivT (ivsP l i))))) (fun _ _ _ t7 _ => l.length - (intOf t7).toNat)
  case atStart => exact ⟨0, none, 0, none, 0, rfl, rfl, rfl, rfl, by omega, Ext.refl _, World.ownsRow_nil _ _ _ _, World.ownsRow_nil _ _ _ _⟩
  case round =>
    obtain ⟨i, aa, ac, ba, bc, rfl, rfl, rfl, rfl, hil, hS⟩ := hrel
    by_cases hlt : i < l.length
    · have hlt2 : (i : Int) < (l.length : Int) := by omega
      obtain ⟨t, ht⟩ : ∃ t, l[i]? = some t := ⟨_, List.getElem?_eq_getElem hlt⟩
      have hrw : rwA l i = t := by unfold rwA; rw [ht]; rfl
      have hrp := (unhide HR).ext (unhide hS).1
      obtain ⟨lb, lo, rfl, _, l1⟩ := hrp.at (tpI_at ht).2.1
      obtain ⟨lb', lo', e1, _, l2⟩ := hrp.at (tpI_at ht).2.2
      injection e1 with e1; injection e1 with e1 e2; subst e1 e2
      simp only [← Nat.add_assoc] at l1 l2
      have q7 := (m7_eq t.2.1).1
      have q31 := (m31_eq t.2.2).1
      have b7 := (m7_eq t.2.1).2
      have b31 := (m31_eq t.2.2).2
      have bA := atP_le l i
      have hat : (atP l (i + 1) : Int) = (atP l i : Int) + (m7 t.2.1 : Int) := by rw [atP, hrw]; omega
      have hen : ((atP l (i + 1) + m31 t.2.2 : Nat) : Int) = (atP l i : Int) + (m7 t.2.1 : Int) + (m31 t.2.2 : Int) := by omega
      have hsn := ivT_snoc l i
      rw [hrw, hen, hat] at hsn
      have HSn := hide hsn
      have HAt := hide hat
      have hO1 := (unhide hS).2.1
      have hO2 := (unhide hS).2.2
      have HO := hide (fun ob => hO1.alloc ob)
      have HO2 := hide hO2
      have hne := own_twoC hO2 hO1 (by decide)
      have HN := hide hne
      have HX := hide (unhide hS).1
      clear hrp ht hS hO1 hO2 hne hat hen hsn
      go_wp2_with (at_builtin; refine kapp_list rfl (.tmp 31) (.tmp 36) 22 rfl w.heap.size 24 i0 (.agg #[.int .i64 0, .int .i64 0, .int .i64 0]) 3 24 Try.underlying22 (unhide HI) (unhide Z0) (unhide Z1) (unhide Z2) rfl (by decide) aa i ac _ rfl (unhide HO _) ⟨wr.heap.size, 0, none⟩ 1 1 [.int .i64 (i : Int), .int .i64 ((atP l i : Int) + (m7 t.2.1 : Int)), .int .i64 ((atP l i : Int) + (m7 t.2.1 : Int) + (m31 t.2.2 : Int))] rfl (by decide) rfl (k_new _ _ rfl _ _) (one_tp _ _ _) ?c1 ?c2 ?c3 ?_)
      case c1 => unfold maxLen; omega
      case c2 => omega
      case c3 => have := (unhide HX).size; have := (Ext.alloc wr (.cells #[.int .i64 (i : Int), .int .i64 ((atP l i : Int) + (m7 t.2.1 : Int)), .int .i64 ((atP l i : Int) + (m7 t.2.1 : Int) + (m31 t.2.2 : Int))] 24)).size; omega
      intro g' cap' w3 ho hg hw
      rw [← unhide HSn] at ho
      have X3 := hide (grown_ext ((unhide HX).trans (Ext.alloc _ _)) (unhide HO _) hg)
      have HO3 := hide ho
      have ho2 := ((unhide HO2).alloc _).kept hg (unhide HN)
      have HP := hide (fun ob => ho2.alloc ob)
      have HQ := hide (fun ob => ho.alloc ob)
      have HN2 := hide (own_twoC ho ho2 (by decide))
      clear ho hg hw ho2
      go_wp2_with (at_builtin; refine kapp_list rfl (.tmp 38) (.tmp 43) 33 rfl w.heap.size 51 j0 (.agg #[.int .i64 0, .int .i64 0, .int .i64 0]) 3 24 Try.underlying33 (unhide HJ) (unhide G0) (unhide G1) (unhide G2) rfl (by decide) ba i bc _ rfl (unhide HP _) ⟨w3.heap.size, 0, none⟩ 1 1 [.int .i64 (i : Int), .int .i64 ((atP l i : Int) + (m7 t.2.1 : Int)), .int .i64 ((atP l i : Int) + (m7 t.2.1 : Int) + (m31 t.2.2 : Int))] rfl (by decide) rfl (k_new _ _ rfl _ _) (one_tp _ _ _) ?c1 ?c2 ?c3 ?_)
      case c1 => unfold maxLen; omega
      case c2 => omega
      case c3 => have := (unhide X3).size; have := (Ext.alloc w3 (.cells #[.int .i64 (i : Int), .int .i64 ((atP l i : Int) + (m7 t.2.1 : Int)), .int .i64 ((atP l i : Int) + (m7 t.2.1 : Int) + (m31 t.2.2 : Int))] 51)).size; omega
      intro g2 cap2 w4 ho hg hw
      rw [← unhide HSn] at ho
      have X4 := hide (grown_ext ((unhide X3).trans (Ext.alloc _ _)) (unhide HP _) hg)
      have HO4 := hide ho
      have HQ4 := hide ((unhide HQ _).kept hg (unhide HN2))
      clear ho hg hw
      go_wp2_with fail
      go_roundw
      case rel => exact ⟨i + 1, _, _, _, _, by go_num, by rw [unhide HAt], rfl, rfl, by omega, unhide X4, unhide HQ4, unhide HO4⟩
      case measure => simp [intOf]; omega
    · have hlt2 : ¬ (i : Int) < (l.length : Int) := by omega
      have hie : i = l.length := by omega
      clear hlt hil
      go_wp2_with fail
      obtain ⟨s1, s2, s3⟩ := unhide hS
      subst hie
      exact bodyPost_ret (v := .tuple #[.slice aa l.length ac, .slice ba l.length bc]) (by simp [results, Try.results9]) rfl ⟨aa, ac, ba, ⟨bc, rfl⟩, own_rep s2, own_rep s3, s1⟩

end Go.Proofs.Ytjopfpchbakggaa
