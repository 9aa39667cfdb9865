/- What a number's text is, as the program builds it: bytes put behind one another in memory of its own, made a text. -/
import Derived.Test.YtmcmfgihdhfcdaaDoorText
set_option linter.unusedSimpArgs false
set_option maxRecDepth 10000
namespace Go.Proofs.YtmcmfgihdhfcdaaDoor
open Go.RowKit

/-- A byte's cell. -/
def B (c : UInt8) : Value := .int .u8 c.toNat

theorem fold_push (l : List UInt8) (r : ByteArray) : (l.map fun c => (c.toNat : Int)).foldl (fun r n => r.push (UInt8.ofNat n.toNat)) r = ⟨r.data ++ l.toArray⟩ := by
  induction l generalizing r with
  | nil => simp
  | cons c t ih =>
    simp only [List.map_cons, List.foldl_cons, Int.toNat_natCast, UInt8.ofNat_toNat]
    rw [ih]
    apply ByteArray.ext
    simp [ByteArray.push]

/-- A row of bytes of the call's own, made a text. -/
theorem run_text_of_row {w : World} {base : Nat} {v : Value} {l : List UInt8} (hne : l ≠ []) (h : w.ownsRow base 5 1 v l.length (l.map B)) :
    (convert 27 9 v).run Tryd.prog w = .ok (.string ⟨l.toArray⟩) w := by
  obtain ⟨hl, h' | ⟨g, cap, cur, rfl, hg, hrow, _⟩⟩ := id h
  · exact absurd (List.length_eq_zero_iff.1 h'.2) hne
  · rw [run_convert_bytes_string w 27 9 5 _ _ _ Tryd.underlying27 Tryd.underlying5 Tryd.underlying9]
    rw [run_bytesToString w ⟨g, 0, none⟩ l.length cap (l.map fun c => (c.toNat : Int)) ?_]
    · rw [fold_push]; simp
    · have hm : (l.map fun c => (c.toNat : Int)).map (Value.int .u8) = l.map B := by rw [List.map_map]; rfl
      rw [hm]
      have := run_loadCells_list (P := Tryd.prog) (w := w) ⟨g, 0, none⟩ (l.map B) (fun j u hj => by
        have hlt : j < (l.map B).length := by
          rcases Nat.lt_or_ge j (l.map B).length with q | q
          · exact q
          · rw [List.getElem?_eq_none q] at hj; cases hj
        have := h.cellAt j (by simpa using hlt)
        rw [hj] at this
        have ea : (⟨g, 0, none⟩ : Addr).add j = ⟨g, j, none⟩ := by cases j <;> simp [Addr.add]
        rw [ea]; exact this)
      rw [List.length_map] at this
      exact this
theorem info5 : (Tryd.prog.info? 5).map (fun i => (i.zero, i.size, i.bytes)) = some (some (.int .u8 0), 1, 1) := by kernel_rfl

theorem tab_get (d : Nat) (h : d < 16) : ({ data := #[48, 49, 50, 51, 52, 53, 54, 55, 56, 57, 97, 98, 99, 100, 101, 102] } : ByteArray)[d]'(by exact h) = hexD d := by
  revert d; decide

theorem own_step {base : Nat} {l : List UInt8} {n k d : Nat} {w wr w1 : World} {t v' : Value} {c : Array Value} {e : TypeId} (hX : Hd (hexD d = hexD (n / 16 ^ (16 - 1 - k) % 16))) (hlt : k < 16)
    (ho : wr.ownsRow base 5 1 t (l.length + k) ((l ++ (hx 16 n).take k).map B)) (hb : Below base w wr) (hbase : base ≤ w.heap.size)
    (hown' : w1.ownsRow base 5 1 v' (l.length + k + 1) (l.map B ++ (((hx 16 n).map B).take k ++ [.int .u8 (hexD d).toNat]))) (hgrow : (wr.alloc (.cells c e)).grownBy w1 t.ownBlock) :
    w1.ownsRow base 5 1 v' (l.length + (k + 1)) ((l ++ (hx 16 n).take (k + 1)).map B) ∧ Below base w w1 := by
  constructor
  · rw [hx_take 16 n k hlt, ← unhide hX, List.map_append, List.map_append, List.map_take]
    exact hown'
  · refine (hb.alloc (Nat.le_trans hbase hb.size) _).grown hgrow (by have := hb.size; simp; omega) ?_
    intro j hj
    obtain ⟨_, h | ⟨g, cap, cur, h, hg, _⟩⟩ := ho
    · rw [h.1] at hj; cases hj
    · rw [h] at hj; cases hj; exact hg

set_option maxHeartbeats 1000000 in
theorem appendDigits_any (base : Nat) (v : Value) (l : List UInt8) (n : Nat) (w : World) (hn : Wd n) (hown : w.ownsRow base 5 1 v l.length (l.map B)) (hl : l.length ≤ 100) (hbase : base ≤ w.heap.size) :
    Calls Tryd.prog 52 #[v, .int .u64 n] w fun e w' => ∃ v', e = .returned v' ∧ w'.ownsRow base 5 1 v' (l.length + 16) ((l ++ hx 16 n).map B) ∧ Below base w w' := by
  unfold Wd at hn
  obtain ⟨i0, hi, hz0, hz1, hz2⟩ := info_parts info5
  go_enter Tryd.func52, Tryd.ntmps52
  go_wp2
  go_loopw [0, 5] (fun t i wr => ∃ k : Nat, k ≤ 16 ∧ i = .int .i64 (60 - 4 * (k : Int)) ∧ wr.ownsRow base 5 1 t (l.length + k) ((l ++ (hx 16 n).take k).map B) ∧ Below base w wr) (fun _ i _ => ((intOf i) + 4).toNat)
  case atStart => exact ⟨0, by omega, rfl, by simpa using hown, Below.refl _ _⟩
  case round =>
    obtain ⟨k, hk, rfl, ho, hb⟩ := hrel
    by_cases hlt : k < 16
    · obtain ⟨sh, hsh⟩ : ∃ sh : Nat, sh = 60 - 4 * k := ⟨_, rfl⟩
      have e : (60 - 4 * (k : Int)) = (sh : Int) := by omega
      rw [e]
      have hs60 : sh ≤ 60 := by omega
      have S := hide hsh
      obtain ⟨d, hd⟩ : ∃ d, d = n / 2 ^ sh % 16 := ⟨_, rfl⟩
      have hd16 : d < 16 := by rw [hd]; exact Nat.mod_lt _ (by decide)
      have ha : bits .and .u64 ((n : Int) / 2 ^ sh) 15 = (d : Int) := by
        have h1 : ((n : Int) / 2 ^ sh) = ((n / 2 ^ sh : Nat) : Int) := by simp
        rw [h1, and15 _ (by have := Nat.div_le_self n (2 ^ sh); omega), hd]
      have ht := tab_get d hd16
      have hx1 : hexD d = hexD (n / 16 ^ (16 - 1 - k) % 16) := by
        rw [hd, show (16 : Nat) ^ (16 - 1 - k) = 2 ^ sh by rw [hsh, show (16 : Nat) = 2 ^ 4 from rfl, ← Nat.pow_mul]; congr 1; omega]
      have hX := hide hx1
      have D := hide hd
      clear hsh e hd hx1
      go_wp2_with (at_builtin; refine wpList_append_own _ rfl _ _ 27 rfl base 5 i0 (.int .u8 0) 1 1 Tryd.underlying27 hi hz0 hz1 hz2 rfl (by decide) _ _ _ rfl (ho.alloc _) ⟨wr.heap.size, 0, none⟩ 1 1 [.int .u8 (hexD d).toNat] rfl rfl (cell_one_new _ _ _) ?c2 ?c3 ?c4 ?c5 ?_)
      case c2 => intro u hu; simp at hu; subst hu; rfl
      case c3 => unfold maxLen; omega
      case c4 => omega
      case c5 => have := hb.size; simp; omega
      intro v' w1 hown' hgrow _
      have R := own_step hX hlt ho hb hbase hown' hgrow
      clear hown' hgrow ho
      go_wp2
      go_roundw
      case rel => exact ⟨k + 1, by omega, by have := unhide S; go_num, R.1, R.2⟩
      case measure => simp [intOf]; omega
    · have hk' : k = 16 := by omega
      subst hk'
      go_wp2
      go_ret
      exact ⟨_, rfl, by rw [List.take_of_length_le (by rw [hx_length]; exact Nat.le_refl _)] at ho; exact ho, hb⟩
theorem makeRow (w : World) : (Instr.makeSlice 27 (.int .i64 0) (.int .i64 35)).run Tryd.prog w = .ok (.slice (some ⟨w.heap.size, 0, none⟩) 0 35) (w.alloc (.cells (Array.replicate 35 (.int .u8 0)) 5)) := by kernel_rfl

/-- The row as it is made, its first byte put. -/
theorem own_new (w : World) : ((w.alloc (.cells ((Array.replicate 35 (.int .u8 0)).setIfInBounds 0 (.int .u8 60)) 5)).alloc (.cells #[.int .u8 60] 5)).ownsRow w.heap.size 5 1 (.slice (some ⟨w.heap.size, 0, none⟩) 1 35) [(60 : UInt8)].length ([(60 : UInt8)].map B) := by
  refine World.ownsRow.alloc ?_ _
  refine ⟨rfl, .inr ⟨w.heap.size, 35, (Array.replicate 35 (.int .u8 0)).setIfInBounds 0 (.int .u8 60), rfl, Nat.le_refl _, ?_, by decide, by unfold maxLen; omega, rfl, rfl⟩⟩
  exact heap_alloc_new _ _

/-- One byte more, behind a row. -/
theorem own_one {base : Nat} {l : List UInt8} {c : UInt8} {w wr w1 : World} {t v' : Value} {ca : Array Value} {e : TypeId} (ho : wr.ownsRow base 5 1 t l.length (l.map B)) (hb : Below base w wr) (hbase : base ≤ w.heap.size)
    (hown' : w1.ownsRow base 5 1 v' (l.length + 1) (l.map B ++ [.int .u8 c.toNat])) (hgrow : (wr.alloc (.cells ca e)).grownBy w1 t.ownBlock) :
    w1.ownsRow base 5 1 v' (l ++ [c]).length ((l ++ [c]).map B) ∧ Below base w w1 := by
  constructor
  · rw [List.length_append, List.map_append]; exact hown'
  · refine (hb.alloc (Nat.le_trans hbase hb.size) _).grown hgrow (by have := hb.size; simp; omega) ?_
    intro j hj
    obtain ⟨_, h | ⟨g, cap, cur, h, hg, _⟩⟩ := ho
    · rw [h.1] at hj; cases hj
    · rw [h] at hj; cases hj; exact hg

theorem txt_list (a b : Nat) : (⟨((((([60] ++ hx 16 a) ++ [44]) ++ hx 16 b) ++ [62]) : List UInt8).toArray⟩ : ByteArray) = txt a b := by
  unfold txt H
  apply ByteArray.ext
  simp [ByteArray.data_append]

set_option maxHeartbeats 1000000 in
theorem text_any (a b : Nat) (w : World) (ha : Wd a) (hb : Wd b) :
    Calls Tryd.prog 36 #[.complex .f64 a b] w fun e w' => e = .returned (.string (txt (cl1 a b) (cl2 a b))) ∧ Below w.heap.size w w' := by
  obtain ⟨i0, hi, hz0, hz1, hz2⟩ := info_parts info5
  have hmk := makeRow
  have o1 := own_new w
  have b1 : Below w.heap.size w ((w.alloc (.cells ((Array.replicate 35 (.int .u8 0)).setIfInBounds 0 (.int .u8 60)) 5)).alloc (.cells #[.int .u8 60] 5)) := ((Below.refl _ _).alloc (Nat.le_refl _) _).alloc (by simp) _
  go_enter Tryd.func36, Tryd.ntmps36
  go_wp2_with (go_at_call 51; refine (bitsOf_any _ _ _ ha hb).mono ?_; rintro e w' ⟨rfl, hw⟩; obtain rfl := hw.symm)
  refine (appendDigits_any w.heap.size _ [60] _ _ (cl_wd1 ha) o1 (by decide) b1.size).mono ?_
  rintro e w2 ⟨v2, rfl, h2, g2⟩
  obtain ⟨l2, e2⟩ : ∃ l : List UInt8, l = [60] ++ hx 16 (cl1 a b) := ⟨_, rfl⟩
  have z2 : l2.length = 17 := by rw [e2, List.length_append, hx_length]; rfl
  have o2 : w2.ownsRow w.heap.size 5 1 v2 l2.length (l2.map B) := by
    rw [z2, e2]; exact h2
  have b2 := b1.trans g2
  have Z2 := hide z2
  have E2 := hide e2
  clear h2 g2 o1 b1 hmk z2 e2
  go_wp2_with (at_builtin; refine wpList_append_own _ rfl _ _ 27 rfl w.heap.size 5 i0 (.int .u8 0) 1 1 Tryd.underlying27 hi hz0 hz1 hz2 rfl (by decide) _ _ _ rfl (o2.alloc _) ⟨w2.heap.size, 0, none⟩ 1 1 [.int .u8 44] rfl rfl (cell_one_new _ _ _) ?c2 ?c3 ?c4 ?c5 ?_)
  case c2 => intro u hu; simp at hu; subst hu; rfl
  case c3 => rw [unhide Z2]; unfold maxLen; omega
  case c4 => rw [unhide Z2]; omega
  case c5 => have := b2.size; simp; omega
  intro v3 w3 h3 g3 _
  obtain ⟨o3, b3⟩ := own_one (c := 44) o2 b2 (Nat.le_refl _) h3 g3
  obtain ⟨l3, e3⟩ : ∃ l : List UInt8, l = l2 ++ [44] := ⟨_, rfl⟩
  have z3 : l3.length = 18 := by rw [e3, List.length_append, unhide Z2]; rfl
  rw [← e3] at o3
  have Z3 := hide z3
  have E3 := hide e3
  clear h3 g3 o2 b2 z3 e3 Z2
  go_wp2_with fail
  refine (appendDigits_any w.heap.size _ l3 _ _ (cl_wd2 hb) o3 (by rw [unhide Z3]; omega) b3.size).mono ?_
  rintro e w4 ⟨v4, rfl, h4, g4⟩
  obtain ⟨l4, e4⟩ : ∃ l : List UInt8, l = l3 ++ hx 16 (cl2 a b) := ⟨_, rfl⟩
  have z4 : l4.length = 34 := by rw [e4, List.length_append, hx_length, unhide Z3]
  have o4 : w4.ownsRow w.heap.size 5 1 v4 l4.length (l4.map B) := by
    rw [z4, e4]; rw [unhide Z3] at h4; exact h4
  have b4 := b3.trans g4
  have Z4 := hide z4
  have E4 := hide e4
  clear h4 g4 o3 b3 z4 e4 Z3
  go_wp2_with (at_builtin; refine wpList_append_own _ rfl _ _ 27 rfl w.heap.size 5 i0 (.int .u8 0) 1 1 Tryd.underlying27 hi hz0 hz1 hz2 rfl (by decide) _ _ _ rfl (o4.alloc _) ⟨w4.heap.size, 0, none⟩ 1 1 [.int .u8 62] rfl rfl (cell_one_new _ _ _) ?d2 ?d3 ?d4 ?d5 ?_)
  case d2 => intro u hu; simp at hu; subst hu; rfl
  case d3 => rw [unhide Z4]; unfold maxLen; omega
  case d4 => rw [unhide Z4]; omega
  case d5 => have := b4.size; simp; omega
  intro v5 w5 h5 g5 _
  obtain ⟨o5, b5⟩ := own_one (c := 62) o4 b4 (Nat.le_refl _) h5 g5
  have hcv := run_text_of_row (by simp) o5
  have el : (⟨(l4 ++ [62]).toArray⟩ : ByteArray) = txt (cl1 a b) (cl2 a b) := by
    rw [unhide E4, unhide E3, unhide E2]; exact txt_list _ _
  rw [el] at hcv
  clear h5 g5 o4 b4 Z4 E4 E3 E2 o5 el
  go_wp2_with (simp only [hcv])
  go_ret
  exact ⟨rfl, b5⟩

end Go.Proofs.YtmcmfgihdhfcdaaDoor
