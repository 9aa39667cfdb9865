/- A value's text, of any value: what appendValue appends, and Show. -/
import Derived.Test.YtmcmfgihdhfcdaaDoorValShow
set_option linter.unusedSimpArgs false
set_option maxRecDepth 10000
namespace Go.Proofs.YtmcmfgihdhfcdaaDoor
open Go.RowKit

theorem shL_append : ∀ (f : Bool) (xs ys : List PV), shL f (xs ++ ys) = shL f xs ++ shL (f && xs.isEmpty) ys
  | f, [], ys => by simp [shL]
  | f, x :: xs, ys => by
    rw [List.cons_append, shL, shL, shL_append false xs ys]
    simp

theorem shL_take (l : List PV) (j : Nat) : (shL true (l.take j)).length ≤ (shL true l).length := by
  have := shL_append true (l.take j) (l.drop j)
  rw [List.take_append_drop] at this
  rw [this, List.length_append]
  omega

theorem shL_snoc {l : List PV} {j : Nat} {x : PV} (h : l[j]? = some x) : shL true (l.take (j + 1)) = shL true (l.take j) ++ ((if j = 0 then [] else [44, 32]) ++ sh x) := by
  obtain ⟨hj, rfl⟩ := List.getElem?_eq_some_iff.1 h
  rw [List.take_succ_eq_append_getElem hj, shL_append]
  congr 1
  rw [shL, shL, List.append_nil]
  cases j with
  | zero => simp
  | succ j =>
    have : (l.take (j + 1)).isEmpty = false := by
      cases l with
      | nil => simp at hj
      | cons y ys => rfl
    simp [this]

/-- The library's table of the powers of ten, whatever is made from block base on. -/
abbrev Tab (base : Nat) (w : World) : Prop := Lib.TabBelow Tryd.prog base w "internal/strconv.uint64pow10" .u64 Lib.pow10Tab

def Appends (p : PV) : Prop := ∀ (v : Value) (base : Nat) (sv : Value) (l : List UInt8) (w : World), Rep w (fun b => b < base) p v → base ≤ w.heap.size → w.ownsRow base 5 1 sv l.length (l.map B) → Tab base w →
    l.length + (sh p).length + 100 ≤ 140737488355328 →
    Calls Tryd.prog 23 #[sv, v] w fun e w' => ∃ v', e = .returned v' ∧ w'.ownsRow base 5 1 v' (l ++ sh p).length ((l ++ sh p).map B) ∧ Below base w w'

theorem app_leaf (k n : Int) (re im : Nat) (s : ByteArray) (ls : List PV) (hk : k ≠ 4) : Appends (.mk k n re im s ls) := by
  intro v base sv l w hr hbase hown htab hlim
  rw [Rep] at hr
  obtain ⟨a, cap, rfl, hb, -⟩ := hr
  obtain ⟨i0, hi, hz0, hz1, hz2⟩ := info_parts info5
  have HI := hide hi
  have Z0 := hide hz0
  have Z1 := hide hz1
  have Z2 := hide hz2
  have O := hide (hown.alloc (.cells #[.int .i64 k, .int .i64 n, .complex .f64 re im, .string s, .slice a ls.length cap] 25))
  have HB := hide hbase
  have BL := hide ((Below.refl base w).alloc hbase (.cells #[.int .i64 k, .int .i64 n, .complex .f64 re im, .string s, .slice a ls.length cap] 25))
  have T := hide (htab.on (unhide BL))
  have hsz : base ≤ (w.alloc (.cells #[.int .i64 k, .int .i64 n, .complex .f64 re im, .string s, .slice a ls.length cap] 25)).heap.size := by simp; omega
  have SZ := hide hsz
  have BD := hide hb
  clear hi hz0 hz1 hz2 hown htab hsz hb
  by_cases hk1 : k = 1
  · subst hk1
    have he : sh (.mk 1 n re im s ls) = Lib.itoa n := by rw [sh, if_pos rfl]
    rw [he] at hlim ⊢
    have hc := Tryd.strconv_AppendInt_10 base l.length n (unhide BD).bn1 (unhide BD).bn2 sv (l.map B) _ (unhide O) (unhide SZ) (by omega) (unhide T)
    have C := hide hc
    clear hc he hlim
    go_enter Tryd.func23, Tryd.ntmps23
    go_wp2_with (go_at_call 35; refine Calls.mono (unhide C) ?_; rintro e w' ⟨v', rfl, ho, hbl, -⟩)
    go_ret
    refine ⟨_, rfl, ?_, (unhide BL).trans hbl⟩
    rw [List.length_append, List.map_append]
    exact ho
  · by_cases hk2 : k = 2
    · subst hk2
      have he : sh (.mk 2 n re im s ls) = (txt (cl1 re im) (cl2 re im)).data.toList := by rw [sh, if_neg (by decide), if_pos rfl]
      rw [he] at hlim ⊢
      have hc := fun w => text_any re im w (unhide BD).bre (unhide BD).bim
      obtain ⟨tx, htx⟩ : ∃ tx, tx = txt (cl1 re im) (cl2 re im) := ⟨_, rfl⟩
      rw [← htx] at hc hlim ⊢
      have hlim2 : l.length + tx.size + 100 ≤ 140737488355328 := hlim
      have C := hide hc
      clear hc he htx hlim
      go_enter Tryd.func23, Tryd.ntmps23
      go_wp2_with (first | (go_at_call 36; refine Calls.mono (unhide C _) ?_; rintro e w1 ⟨rfl, hw1⟩; have O1 := hide (own_ext (unhide O) hw1); have B1 := hide ((unhide BL).trans (hw1.mono (unhide SZ))); have hs1 : base ≤ w1.heap.size := Nat.le_trans (unhide SZ) hw1.size; clear hw1) | (at_builtin; refine Lib.wpList_append_own_string _ rfl _ _ 27 9 rfl base 5 i0 Tryd.underlying27 Tryd.underlying9 (unhide HI) (unhide Z0) (unhide Z1) (unhide Z2) _ _ _ rfl (unhide O1) tx rfl ?c1 ?c2 ?c3 ?_))
      case c1 => unfold maxLen; omega
      case c2 => omega
      case c3 => exact hs1
      intro v2 w2 ho2 hg2 _
      obtain ⟨hO2, hB2⟩ := own_more (m := tx.data.toList) (unhide O1) (unhide B1) (unhide HB) ho2 hg2
      have O2 := hide hO2
      have B2 := hide hB2
      clear ho2 hg2 hO2 hB2
      go_wp2_with fail
      go_ret
      exact ⟨_, rfl, unhide O2, unhide B2⟩
    · by_cases hk3 : k = 3
      · subst hk3
        have he : sh (.mk 3 n re im s ls) = quo s.data.toList := by rw [sh, if_neg (by decide), if_neg (by decide), if_pos rfl]
        rw [he] at hlim ⊢
        have hc := quoted_any base sv l s _ (unhide O) hlim (unhide BD).bs (unhide SZ)
        have C := hide hc
        clear hc he hlim
        go_enter Tryd.func23, Tryd.ntmps23
        go_wp2_with (go_at_call 37; refine Calls.mono (unhide C) ?_; rintro e w' ⟨v', rfl, ho, hbl⟩)
        go_ret
        exact ⟨_, rfl, ho, (unhide BL).trans hbl⟩
      · have he : sh (.mk k n re im s ls) = [110, 105, 108] := by rw [sh, if_neg hk1, if_neg hk2, if_neg hk3, if_neg hk]
        rw [he] at hlim ⊢
        have hlim2 : l.length + 103 ≤ 140737488355328 := hlim
        have e1 : (k == 1) = false := by simpa using hk1
        have e2 : (k == 2) = false := by simpa using hk2
        have e3 : (k == 3) = false := by simpa using hk3
        have e4 : (k == 4) = false := by simpa using hk
        clear he hlim hk1 hk2 hk3 hk
        go_enter Tryd.func23, Tryd.ntmps23
        go_wp2_with (at_builtin; refine Lib.wpList_append_own_string _ rfl _ _ 27 9 rfl base 5 i0 Tryd.underlying27 Tryd.underlying9 (unhide HI) (unhide Z0) (unhide Z1) (unhide Z2) _ _ _ rfl (unhide O) ⟨#[110, 105, 108]⟩ rfl ?c1 ?c2 ?c3 ?_)
        case c1 => show l.length + 3 ≤ _; unfold maxLen; omega
        case c2 => show l.length + 3 ≤ _; omega
        case c3 => exact unhide SZ
        intro v2 w2 ho2 hg2 _
        obtain ⟨hO2, hB2⟩ := own_more (m := [110, 105, 108]) (unhide O) (unhide BL) (unhide HB) ho2 hg2
        have O2 := hide hO2
        have B2 := hide hB2
        clear ho2 hg2 hO2 hB2
        go_wp2_with fail
        go_ret
        exact ⟨_, rfl, unhide O2, unhide B2⟩

theorem app_list (n : Int) (re im : Nat) (s : ByteArray) (ls : List PV) (ih : ∀ x ∈ ls, Appends x) : Appends (.mk 4 n re im s ls) := by
  intro v base sv l w hr hbase hown htab hlim
  rw [Rep] at hr
  obtain ⟨a, cap, rfl, hb, hls⟩ := hr
  obtain ⟨i0, hi, hz0, hz1, hz2⟩ := info_parts info5
  have HI := hide hi
  have Z0 := hide hz0
  have Z1 := hide hz1
  have Z2 := hide hz2
  have O := hide (hown.alloc (.cells #[.int .i64 4, .int .i64 n, .complex .f64 re im, .string s, .slice a ls.length cap] 25))
  have HB := hide hbase
  have BL := hide ((Below.refl base w).alloc hbase (.cells #[.int .i64 4, .int .i64 n, .complex .f64 re im, .string s, .slice a ls.length cap] 25))
  have T := hide htab
  have hsz : base ≤ (w.alloc (.cells #[.int .i64 4, .int .i64 n, .complex .f64 re im, .string s, .slice a ls.length cap] 25)).heap.size := by simp; omega
  have SZ := hide hsz
  have h1 := hb.bl
  have h2 := hb.bc
  have H := hide hls
  have I := hide ih
  have he : sh (.mk 4 n re im s ls) = 91 :: (shL true ls ++ [93]) := by rw [sh, if_neg (by decide), if_neg (by decide), if_neg (by decide), if_pos rfl]
  rw [he] at hlim ⊢
  have hlim2 : l.length + (shL true ls).length + 102 ≤ 140737488355328 := by simp at hlim; omega
  have LIM := hide hlim2
  have hll : l.length + 102 ≤ 140737488355328 := by omega
  have hOb : ∀ g, sv.ownBlock = some g → g < w.heap.size := fun g e => (hown.lt g e).2
  have hbase' : (w.alloc (.cells #[.int .i64 4, .int .i64 n, .complex .f64 re im, .string s, .slice a ls.length cap] 25)).heap[w.heap.size]? = some (.cells #[.int .i64 4, .int .i64 n, .complex .f64 re im, .string s, .slice a ls.length cap] 25 (0, 0)) := Go.heap_alloc_new w _
  have OB := hide hOb
  have NB := hide hbase'
  clear hi hz0 hz1 hz2 hown htab hsz hb ih hls he hlim hlim2 hOb hbase'
  go_enter Tryd.func23, Tryd.ntmps23
  go_wp2_with (at_builtin; refine Lib.wpList_append_own_string _ rfl _ _ 27 9 rfl base 5 i0 Tryd.underlying27 Tryd.underlying9 (unhide HI) (unhide Z0) (unhide Z1) (unhide Z2) _ _ _ rfl (unhide O) ⟨#[91]⟩ rfl ?c1 ?c2 ?c3 ?_)
  case c1 => show l.length + 1 ≤ _; unfold maxLen; omega
  case c2 => show l.length + 1 ≤ _; omega
  case c3 => exact unhide SZ
  intro v1 w1 ho1 hg1 _
  obtain ⟨hO1, hB1⟩ := own_more (m := [91]) (unhide O) (unhide BL) (unhide HB) ho1 hg1
  have hbx := grown_row hg1 (unhide NB) (fun e => by have := unhide OB _ e.symm; omega)
  have hbx4 := rowC hbx 4 rfl
  have O1 := hide hO1
  have B1 := hide hB1
  clear ho1 hg1 hO1 hB1 hbx
  go_wp2_with fail
  go_loopw [0, 35] (fun t i wr => ∃ (j : Nat) (ac : List UInt8), i = .int .i64 j ∧ j ≤ ls.length ∧ Hd (ac = l ++ 91 :: shL true (ls.take j)) ∧ Hd (wr.ownsRow base 5 1 t ac.length (ac.map B)) ∧ Hd (Below base w wr)) (fun _ i _ => ls.length - (intOf i).toNat)
  case atStart => exact ⟨0, l ++ [91], rfl, by omega, by show l ++ [91] = _; simp [shL], unhide O1, unhide B1⟩
  case round =>
    clear hbx4 O1 B1
    obtain ⟨j, ac, rfl, hj, hA, hO, hB⟩ := hrel
    have hbd : ac.length + 3 ≤ 140737488355328 := by
      have h1 := unhide hA
      have h2 := shL_take ls j
      have h3 := unhide LIM
      rw [h1]
      simp only [List.length_append, List.length_cons]
      omega
    by_cases hlt : j < ls.length
    · obtain ⟨x, hx⟩ : ∃ x, ls[j]? = some x := ⟨ls[j], List.getElem?_eq_getElem hlt⟩
      obtain ⟨b, off, a', cap', rfl, hEl⟩ := RepL.get (RepL.to (F' := fun b => b < base) (fun b hb => ⟨hb, (unhide hB).block b hb⟩) ls a (unhide H)) j x hx
      have h0 := hEl.c0
      have h1 := hEl.c1
      have h2 := hEl.c2
      have h3 := hEl.c3
      have h4 := hEl.c4
      have hsn := shL_snoc hx
      have hfit : l.length + (shL true (ls.take j)).length + ((if j = 0 then [] else [44, 32]) ++ sh x : List UInt8).length + 102 ≤ 140737488355328 := by
        have h5 := shL_take ls (j + 1)
        have h6 := unhide LIM
        rw [hsn, List.length_append] at h5
        omega
      have hbw : base ≤ wr.heap.size := Nat.le_trans (unhide HB) (unhide hB).size
      have hBX := (unhide hB).alloc hbw (.cells #[.int .i64 x.k, .int .i64 x.n, .complex .f64 x.re x.im, .string x.s, .slice a' x.l.length cap'] 25)
      have hOX := (unhide hO).alloc (.cells #[.int .i64 x.k, .int .i64 x.n, .complex .f64 x.re x.im, .string x.s, .slice a' x.l.length cap'] 25)
      have hst : ∀ w2, Below base wr w2 → Rep w2 (fun b => b < base) x (.agg #[.int .i64 x.k, .int .i64 x.n, .complex .f64 x.re x.im, .string x.s, .slice a' x.l.length cap']) := fun w2 h => Rep.to (fun b hb => ⟨hb, h.block b hb⟩) _ _ hEl.rep
      have hcall := fun sv l w => unhide I x (List.mem_of_getElem? hx) (.agg #[.int .i64 x.k, .int .i64 x.n, .complex .f64 x.re x.im, .string x.s, .slice a' x.l.length cap']) base sv l w
      have RX := hide hst
      have CX := hide hcall
      have BX := hide hBX
      have OX := hide hOX
      have FX := hide hfit
      have SN := hide hsn
      have BW := hide hbw
      clear hEl hst hcall hBX hOX hfit hsn hbw hx
      by_cases hj0 : j = 0
      · have hjn : ¬ (0 : Int) < (j : Int) := by omega
        have J0 := hide hj0
        have hlen : ac.length + (sh x).length + 100 ≤ 140737488355328 := by
          have h5 := unhide FX
          rw [unhide hA]
          rw [unhide J0] at h5 ⊢
          simp [shL] at h5 ⊢
          omega
        have hcall := unhide CX _ ac _ (unhide RX _ ((Below.refl base wr).alloc (unhide BW) _)) (by have := unhide BW; simp; omega) (unhide OX) ((unhide T).on (unhide BX)) hlen
        have C := hide hcall
        clear hcall hlen hj0
        go_wp2_with (go_at_call 23; refine Calls.mono (unhide C) ?_; rintro e w3 ⟨v3, rfl, ho3, hb3⟩; have O3 := hide ho3; have B3 := hide hb3; clear ho3 hb3)
        go_roundw
        case rel =>
          refine ⟨j + 1, ac ++ sh x, by go_num, by omega, ?_, unhide O3, (unhide BX).trans (unhide B3)⟩
          show ac ++ sh x = _
          rw [unhide SN, unhide hA, if_pos (unhide J0)]
          simp
        case measure => simp [intOf]; omega
      · have hjp : (0 : Int) < (j : Int) := by omega
        have hne : ∀ t : Value, wr.ownsRow base 5 1 t ac.length (ac.map B) → some wr.heap.size ≠ t.ownBlock := fun t h e => by have := (h.lt _ e.symm).2; omega
        have NE := hide hne
        clear hne
        go_wp2_with (at_builtin; refine Lib.wpList_append_own_string _ rfl _ _ 27 9 rfl base 5 i0 Tryd.underlying27 Tryd.underlying9 (unhide HI) (unhide Z0) (unhide Z1) (unhide Z2) _ _ _ rfl (unhide OX) ⟨#[44, 32]⟩ rfl ?e1 ?e2 ?e3 ?_)
        case e1 => show ac.length + 2 ≤ _; unfold maxLen; omega
        case e2 => show ac.length + 2 ≤ _; omega
        case e3 => have := unhide BW; simp; omega
        intro v2 w2 ho2 hg2 _
        obtain ⟨hO2, hB2⟩ := own_more (m := [44, 32]) (unhide OX) (unhide BX) (unhide HB) ho2 hg2
        have hrow := grown_row hg2 (Go.heap_alloc_new wr _) (unhide NE _ (unhide hO))
        have hx0 := rowC hrow 0 rfl
        have hx1 := rowC hrow 1 rfl
        have hx2 := rowC hrow 2 rfl
        have hx3 := rowC hrow 3 rfl
        have hx4 := rowC hrow 4 rfl
        have hB3 : Below base wr w2 := ((Below.refl base wr).alloc (unhide BW) _).grown hg2 (by have := unhide BW; simp; omega) (fun k e => ((unhide OX).lt k e).1)
        have hlen : (ac ++ [44, 32]).length + (sh x).length + 100 ≤ 140737488355328 := by
          have h5 := unhide FX
          rw [unhide hA]
          rw [if_neg hj0] at h5
          simp at h5 ⊢
          omega
        have hcall := unhide CX v2 (ac ++ [44, 32]) w2 (unhide RX _ hB3) (Nat.le_trans (unhide BW) hB3.size) hO2 ((unhide T).on hB2) hlen
        have C := hide hcall
        have B2 := hide hB2
        clear hcall hlen hB3 hrow hO2 hB2 ho2 hg2
        go_wp2_with (go_at_call 23; refine Calls.mono (unhide C) ?_; rintro e w3 ⟨v3, rfl, ho3, hb3⟩; have O3 := hide ho3; have B3 := hide hb3; clear ho3 hb3)
        go_roundw
        case rel =>
          refine ⟨j + 1, ac ++ [44, 32] ++ sh x, by go_num, by omega, ?_, unhide O3, (unhide B2).trans (unhide B3)⟩
          show ac ++ [44, 32] ++ sh x = _
          rw [unhide SN, unhide hA, if_neg hj0]
          simp
        case measure => simp [intOf]; omega
    · have : j = ls.length := by omega
      subst this
      go_wp2_with (at_builtin; refine Lib.wpList_append_own_string _ rfl _ _ 27 9 rfl base 5 i0 Tryd.underlying27 Tryd.underlying9 (unhide HI) (unhide Z0) (unhide Z1) (unhide Z2) _ _ _ rfl (unhide hO) ⟨#[93]⟩ rfl ?d1 ?d2 ?d3 ?_)
      case d1 => show ac.length + 1 ≤ _; unfold maxLen; omega
      case d2 => show ac.length + 1 ≤ _; omega
      case d3 => exact Nat.le_trans (unhide HB) (unhide hB).size
      intro v2 w2 ho2 hg2 _
      obtain ⟨hO2, hB2⟩ := own_more (m := [93]) (unhide hO) (unhide hB) (unhide HB) ho2 hg2
      have hfin : ac ++ [93] = l ++ 91 :: (shL true ls ++ [93]) := by
        rw [unhide hA, List.take_of_length_le (Nat.le_refl _)]
        simp
      rw [hfin] at hO2
      have O2 := hide hO2
      have B2 := hide hB2
      clear ho2 hg2 hO2 hB2 hfin
      go_wp2_with fail
      go_ret
      exact ⟨_, rfl, unhide O2, unhide B2⟩

theorem appv_any : ∀ p, Appends p := by
  refine PV.byList ?_
  intro k n re im s l ih
  by_cases hk : k = 4
  · subst hk
    exact app_list n re im s l ih
  · exact app_leaf k n re im s l hk

theorem itoa_ne (n : Int) : Lib.itoa n ≠ [] := by
  unfold Lib.itoa
  split
  · simp
  · unfold Lib.decDigits
    split <;> simp

theorem sh_ne (p : PV) : sh p ≠ [] := by
  cases p with
  | mk k n re im s l =>
  rw [sh]
  split
  · exact itoa_ne n
  · split
    · intro e
      have : (txt (cl1 re im) (cl2 re im)).data.toList.length = 0 := by rw [e]; rfl
      simp [txt] at this
    · split
      · simp [quo]
      · split <;> simp

theorem tab_up {w w1 : World} (h : Tab w.heap.size w) (e : Ext w w1) : Tab w1.heap.size w1 := fun w' hb => h w' (Ext.trans e hb)

theorem show_any (p : PV) (v : Value) (w : World) (hr : Rep w (In w) p v) (htab : Tab w.heap.size w) (hlim : (sh (tk p)).length + 100 ≤ 140737488355328) :
    Calls Tryd.prog 15 #[v] w fun e w' => e = .returned (.string ⟨(sh (tk p)).toArray⟩) ∧ Ext w w' := by
  have hc := fun w' (h : Ext w w') => taken_any p v w' (hr.ext h)
  obtain ⟨q, hq⟩ : ∃ q, q = tk p := ⟨_, rfl⟩
  rw [← hq] at hc hlim ⊢
  have hd := fun v' w1 (h : Ext w w1) (h1 : Rep w1 (In w1) q v') => appv_any q v' w1.heap.size (.slice none 0 0) [] w1 h1 (Nat.le_refl _) (World.ownsRow_nil _ _ _ _) (tab_up htab h) (by simpa using hlim)
  have hn := sh_ne q
  obtain ⟨tx, htx⟩ : ∃ tx, tx = sh q := ⟨_, rfl⟩
  rw [← htx] at hd hn ⊢
  clear hq htx
  cases p with
  | mk k n re im s l =>
  rw [Rep] at hr
  obtain ⟨a, cap, rfl, -, -⟩ := hr
  have C := hide hc
  have D := hide hd
  have N := hide hn
  clear hc hd hn htab hlim
  go_enter Tryd.func15, Tryd.ntmps15
  go_wp2_with (first | (go_at_call 20; refine Calls.mono (unhide C _ (Ext.alloc _ _)) ?_; rintro e w1 ⟨v1, rfl, hr1, hw1⟩; have R1 := hide hr1; have W1 := hide hw1; clear hr1 hw1) | (go_at_call 23; refine Calls.mono (unhide D _ _ ((Ext.alloc _ _).trans (unhide W1)) (unhide R1)) ?_; rintro e w2 ⟨v2, rfl, ho2, hw2⟩; have hcv := run_text_of_row (unhide N) ho2; have W2 := hide hw2; clear ho2 hw2))
  go_ret
  exact ⟨rfl, ((Ext.alloc _ _).trans (unhide W1)).trans (unhide W2)⟩

end Go.Proofs.YtmcmfgihdhfcdaaDoor
