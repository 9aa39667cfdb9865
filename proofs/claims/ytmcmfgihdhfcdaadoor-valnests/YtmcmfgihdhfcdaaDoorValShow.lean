/- A value's text: what is appended to a row of bytes of the call's own. -/
import Derived.Test.YtmcmfgihdhfcdaaDoorValCopyB
import Derived.Test.YtmcmfgihdhfcdaaDoorTextOut
import Derived.Lib.AppendStr
set_option linter.unusedSimpArgs false
set_option maxRecDepth 10000
namespace Go.Proofs.YtmcmfgihdhfcdaaDoor
open Go.RowKit

/-- A byte within quotes. -/
def esc (c : UInt8) : List UInt8 := if c = 34 ∨ c = 92 then [92, c] else if c = 10 then [92, 110] else [c]
def quo (l : List UInt8) : List UInt8 := 34 :: (l.flatMap esc ++ [34])

mutual
/-- A value's text, of one that is Ok. -/
def sh : PV → List UInt8
  | .mk k n re im s l => if k = 1 then Lib.itoa n else if k = 2 then (txt (cl1 re im) (cl2 re im)).data.toList else if k = 3 then quo s.data.toList else if k = 4 then 91 :: (shL true l ++ [93]) else [110, 105, 108]
def shL : Bool → List PV → List UInt8
  | _, [] => []
  | first, x :: xs => (if first then [] else [44, 32]) ++ sh x ++ shL false xs
end

theorem own_more {base : Nat} {l m : List UInt8} {w wr w1 : World} {t v' : Value} (ho : wr.ownsRow base 5 1 t l.length (l.map B)) (hb : Below base w wr) (hbase : base ≤ w.heap.size)
    (hown' : w1.ownsRow base 5 1 v' (l.length + m.length) (l.map B ++ m.map B)) (hgrow : wr.grownBy w1 t.ownBlock) :
    w1.ownsRow base 5 1 v' (l ++ m).length ((l ++ m).map B) ∧ Below base w w1 := by
  constructor
  · rw [List.length_append, List.map_append]; exact hown'
  · refine hb.grown hgrow (Nat.le_trans hbase hb.size) ?_
    intro j hj
    obtain ⟨_, h | ⟨g, cap, cur, h, hg, _⟩⟩ := ho
    · rw [h.1] at hj; cases hj
    · rw [h] at hj; cases hj; exact hg

theorem flat_take (f : UInt8 → List UInt8) (l : List UInt8) (j : Nat) : ((l.take j).flatMap f).length ≤ (l.flatMap f).length := by
  have : l.flatMap f = (l.take j).flatMap f ++ (l.drop j).flatMap f := by rw [← List.flatMap_append, List.take_append_drop]
  rw [this, List.length_append]
  omega

theorem esc_le (c : UInt8) : (esc c).length ≤ 2 := by
  unfold esc
  split
  · simp
  · split <;> simp

theorem quoted_any (base : Nat) (v : Value) (l : List UInt8) (s : ByteArray) (w : World) (hown : w.ownsRow base 5 1 v l.length (l.map B)) (hl : l.length + (quo s.data.toList).length + 100 ≤ 140737488355328) (hs : s.size ≤ 140737488355328) (hbase : base ≤ w.heap.size) :
    Calls Tryd.prog 37 #[v, .string s] w fun e w' => ∃ v', e = .returned v' ∧ w'.ownsRow base 5 1 v' (l ++ quo s.data.toList).length ((l ++ quo s.data.toList).map B) ∧ Below base w w' := by
  obtain ⟨i0, hi, hz0, hz1, hz2⟩ := info_parts info5
  have HI := hide hi
  have Z0 := hide hz0
  have Z1 := hide hz1
  have Z2 := hide hz2
  have O := hide hown
  have hq : (quo s.data.toList).length = (s.data.toList.flatMap esc).length + 2 := by simp [quo]
  have HB := hide hbase
  have LL := hide (⟨hl, hq⟩ : _ ∧ _)
  have ht : l.length + 200 ≤ 140737488355428 := by omega
  clear hi hz0 hz1 hz2 hown hq hl
  go_enter Tryd.func37, Tryd.ntmps37
  go_wp2_with (at_builtin; refine wpList_append_own _ rfl _ _ 27 rfl base 5 i0 (.int .u8 0) 1 1 Tryd.underlying27 (unhide HI) (unhide Z0) (unhide Z1) (unhide Z2) rfl (by decide) _ _ _ rfl ((unhide O).alloc _) ⟨w.heap.size, 0, none⟩ 1 1 [.int .u8 34] rfl rfl (cell_one_new _ _ _) ?c2 ?c3 ?c4 ?c5 ?_)
  case c2 => intro u hu; simp at hu; subst hu; rfl
  case c3 => unfold maxLen; omega
  case c4 => omega
  case c5 => have := unhide HB; simp; omega
  intro v1 w1 ho1 hg1 _
  obtain ⟨hO1, hB1⟩ := own_one (c := 34) (unhide O) (Below.refl base w) (unhide HB) ho1 hg1
  clear ho1 hg1
  have O1 := hide hO1
  have B1 := hide hB1
  clear hO1 hB1 O
  go_wp2_with fail
  go_loopw [0, 11] (fun t i wr => ∃ (j : Nat) (ac : List UInt8), i = .int .i64 j ∧ j ≤ s.size ∧ Hd (ac = l ++ 34 :: (s.data.toList.take j).flatMap esc) ∧ Hd (wr.ownsRow base 5 1 t ac.length (ac.map B)) ∧ Hd (Below base w wr)) (fun _ i _ => s.size - (intOf i).toNat)
  case atStart => exact ⟨0, l ++ [34], rfl, by omega, by show l ++ [34] = _; simp, unhide O1, unhide B1⟩
  case round =>
    obtain ⟨j, ac, rfl, hj, hA, hO, hB⟩ := hrel
    have hbd : ac.length + 3 ≤ 140737488355328 := by
      have h1 := unhide hA
      have h2 := flat_take esc s.data.toList j
      have h3 := (unhide LL)
      rw [h1]
      simp only [List.length_append, List.length_cons]
      omega
    by_cases hlt : j < s.size
    · obtain ⟨c, hc⟩ : ∃ c, c = s[j] := ⟨_, rfl⟩
      have hst : l ++ 34 :: (s.data.toList.take (j + 1)).flatMap esc = ac ++ esc c := by
        rw [take_snoc s j hlt, List.flatMap_append, ← hc, unhide hA]
        simp
      have ST := hide hst
      have hidx : s[j] = c := hc.symm
      clear hst hc
      by_cases h34 : c = 34
      · subst h34
        go_wp2_with (at_builtin; refine wpList_append_own _ rfl _ _ 27 rfl base 5 i0 (.int .u8 0) 1 1 Tryd.underlying27 (unhide HI) (unhide Z0) (unhide Z1) (unhide Z2) rfl (by decide) _ _ _ rfl ((unhide hO).alloc _) ⟨wr.heap.size, 0, none⟩ 2 2 [.int .u8 92, .int .u8 34] rfl rfl (cells_new wr #[.int .u8 92, .int .u8 34] 5) ?p2 ?p3 ?p4 ?p5 ?_)
        case p2 => simp [Value.oneCell']
        case p3 => unfold maxLen; omega
        case p4 => omega
        case p5 => have := unhide HB; have h2 := (unhide hB).size; simp; omega
        intro v2 w2 ho2 hg2 _
        obtain ⟨hO2, hB2⟩ := own_more (m := [92, 34]) ((unhide hO).alloc _) ((unhide hB).alloc (Nat.le_trans (unhide HB) (unhide hB).size) _) (unhide HB) ho2 hg2
        clear ho2 hg2
        have O2 := hide hO2
        have B2 := hide hB2
        clear hO2 hB2
        go_wp2_with fail
        go_roundw
        case rel => exact ⟨j + 1, ac ++ [92, 34], by go_num, by omega, (by have := unhide ST; rw [show esc 34 = [92, 34] by decide] at this; exact this.symm), unhide O2, unhide B2⟩
        case measure => simp [intOf]; omega
      by_cases h92 : c = 92
      · subst h92
        go_wp2_with (at_builtin; refine wpList_append_own _ rfl _ _ 27 rfl base 5 i0 (.int .u8 0) 1 1 Tryd.underlying27 (unhide HI) (unhide Z0) (unhide Z1) (unhide Z2) rfl (by decide) _ _ _ rfl ((unhide hO).alloc _) ⟨wr.heap.size, 0, none⟩ 2 2 [.int .u8 92, .int .u8 92] rfl rfl (cells_new wr #[.int .u8 92, .int .u8 92] 5) ?q2 ?q3 ?q4 ?q5 ?_)
        case q2 => simp [Value.oneCell']
        case q3 => unfold maxLen; omega
        case q4 => omega
        case q5 => have := unhide HB; have h2 := (unhide hB).size; simp; omega
        intro v2 w2 ho2 hg2 _
        obtain ⟨hO2, hB2⟩ := own_more (m := [92, 92]) ((unhide hO).alloc _) ((unhide hB).alloc (Nat.le_trans (unhide HB) (unhide hB).size) _) (unhide HB) ho2 hg2
        clear ho2 hg2
        have O2 := hide hO2
        have B2 := hide hB2
        clear hO2 hB2
        go_wp2_with fail
        go_roundw
        case rel => exact ⟨j + 1, ac ++ [92, 92], by go_num, by omega, (by have := unhide ST; rw [show esc 92 = [92, 92] by decide] at this; exact this.symm), unhide O2, unhide B2⟩
        case measure => simp [intOf]; omega
      by_cases h10 : c = 10
      · subst h10
        go_wp2_with (at_builtin; refine wpList_append_own _ rfl _ _ 27 rfl base 5 i0 (.int .u8 0) 1 1 Tryd.underlying27 (unhide HI) (unhide Z0) (unhide Z1) (unhide Z2) rfl (by decide) _ _ _ rfl ((unhide hO).alloc _) ⟨wr.heap.size, 0, none⟩ 2 2 [.int .u8 92, .int .u8 110] rfl rfl (cells_new wr #[.int .u8 92, .int .u8 110] 5) ?r2 ?r3 ?r4 ?r5 ?_)
        case r2 => simp [Value.oneCell']
        case r3 => unfold maxLen; omega
        case r4 => omega
        case r5 => have := unhide HB; have h2 := (unhide hB).size; simp; omega
        intro v2 w2 ho2 hg2 _
        obtain ⟨hO2, hB2⟩ := own_more (m := [92, 110]) ((unhide hO).alloc _) ((unhide hB).alloc (Nat.le_trans (unhide HB) (unhide hB).size) _) (unhide HB) ho2 hg2
        clear ho2 hg2
        have O2 := hide hO2
        have B2 := hide hB2
        clear hO2 hB2
        go_wp2_with fail
        go_roundw
        case rel => exact ⟨j + 1, ac ++ [92, 110], by go_num, by omega, (by have := unhide ST; rw [show esc 10 = [92, 110] by decide] at this; exact this.symm), unhide O2, unhide B2⟩
        case measure => simp [intOf]; omega
      · have e34 : ((c.toNat : Int) == 34) = false := by
          simp only [beq_eq_false_iff_ne]
          intro e
          exact h34 (UInt8.toNat.inj (by show c.toNat = 34; omega))
        have e92 : ((c.toNat : Int) == 92) = false := by
          simp only [beq_eq_false_iff_ne]
          intro e
          exact h92 (UInt8.toNat.inj (by show c.toNat = 92; omega))
        have e10 : ((c.toNat : Int) == 10) = false := by
          simp only [beq_eq_false_iff_ne]
          intro e
          exact h10 (UInt8.toNat.inj (by show c.toNat = 10; omega))
        have hesc : esc c = [c] := by simp [esc, h34, h92, h10]
        have ES := hide hesc
        clear hesc h34 h92 h10
        go_wp2_with (at_builtin; refine wpList_append_own _ rfl _ _ 27 rfl base 5 i0 (.int .u8 0) 1 1 Tryd.underlying27 (unhide HI) (unhide Z0) (unhide Z1) (unhide Z2) rfl (by decide) _ _ _ rfl ((unhide hO).alloc _) ⟨wr.heap.size, 0, none⟩ 1 1 [.int .u8 c.toNat] rfl rfl (cells_new wr #[.int .u8 c.toNat] 5) ?t2 ?t3 ?t4 ?t5 ?_)
        case t2 => simp [Value.oneCell']
        case t3 => unfold maxLen; omega
        case t4 => omega
        case t5 => have := unhide HB; have h2 := (unhide hB).size; simp; omega
        intro v2 w2 ho2 hg2 _
        obtain ⟨hO2, hB2⟩ := own_more (m := [c]) ((unhide hO).alloc _) ((unhide hB).alloc (Nat.le_trans (unhide HB) (unhide hB).size) _) (unhide HB) ho2 hg2
        clear ho2 hg2
        have O2 := hide hO2
        have B2 := hide hB2
        clear hO2 hB2
        go_wp2_with fail
        go_roundw
        case rel => exact ⟨j + 1, ac ++ [c], by go_num, by omega, (by have := unhide ST; rw [unhide ES] at this; exact this.symm), unhide O2, unhide B2⟩
        case measure => simp [intOf]; omega
    · have : j = s.size := by omega
      subst this
      go_wp2_with (at_builtin; refine wpList_append_own _ rfl _ _ 27 rfl base 5 i0 (.int .u8 0) 1 1 Tryd.underlying27 (unhide HI) (unhide Z0) (unhide Z1) (unhide Z2) rfl (by decide) _ _ _ rfl ((unhide hO).alloc _) ⟨wr.heap.size, 0, none⟩ 1 1 [.int .u8 34] rfl rfl (cell_one_new _ _ _) ?d2 ?d3 ?d4 ?d5 ?_)
      case d2 => intro u hu; simp at hu; subst hu; rfl
      case d3 => unfold maxLen; omega
      case d4 => omega
      case d5 => have := unhide HB; have h2 := (unhide hB).size; simp; omega
      intro v2 w2 ho2 hg2 _
      obtain ⟨hO2, hB2⟩ := own_one (c := 34) (unhide hO) (unhide hB) (unhide HB) ho2 hg2
      clear ho2 hg2
      have hfin : ac ++ [34] = l ++ quo s.data.toList := by
        rw [unhide hA, quo, List.take_of_length_le (by simp)]
        simp
      rw [hfin] at hO2
      have O2 := hide hO2
      have B2 := hide hB2
      clear hO2 hB2 hfin
      go_wp2_with fail
      go_ret
      exact ⟨_, rfl, unhide O2, unhide B2⟩

end Go.Proofs.YtmcmfgihdhfcdaaDoor
