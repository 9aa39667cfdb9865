/- Graph: where each block's end leads, as lists. -/
import Derived.Test.YtdnhekgbfhlhoaaThO
set_option linter.unusedSimpArgs false
set_option linter.unusedVariables false
set_option maxRecDepth 10000
namespace Go.Proofs.Ytdnhekgbfhlhoaa
open Go.RowKit

set_option maxHeartbeats 1000000 in
theorem ways2_w (t : RT) (w : World) :
    Calls Try.prog 47 #[rtV t] w fun e w' => (∃ ia ic, e = .returned (.slice ia (waysP t).length ic) ∧ RepI w' (fun q => w.heap.size ≤ q ∧ q < w'.heap.size) ia (waysP t)) ∧ Ext w w' := by
  obtain ⟨k, a, t, e⟩ := t
  unfold waysP
  simp only
  have HR : Hd (∀ (ob : Obj) (l : List Int), RepI ((w.alloc ob).alloc (.cells (zs l).toArray 3)) (fun q => w.heap.size ≤ q ∧ q < ((w.alloc ob).alloc (.cells (zs l).toArray 3)).heap.size) (some ⟨w.heap.size + 1, 0, none⟩) l) := fun ob l => by
    refine Or.inr ⟨w.heap.size + 1, 0, rfl, ⟨by omega, ?_⟩, fun j x hx => ?_⟩
    · rw [sz1, sz1]
      omega
    · rw [Nat.zero_add, ← sz1 w ob]
      exact cell_box _ _ _ j (by simp [zs, hx])
  by_cases hk2 : k = 2
  · subst hk2
    by_cases hte : t = e
    · subst hte
      rw [if_neg (by simp), if_pos (by simp)]
      go_enter Try.func47, Try.ntmps47
      go_wp2_with fail
      go_ret
      exact ⟨⟨_, _, rfl, unhide HR _ [t]⟩, ext2 _ _⟩
    · rw [if_pos ⟨rfl, hte⟩]
      go_enter Try.func47, Try.ntmps47
      go_wp2_with fail
      go_ret
      exact ⟨⟨_, _, rfl, unhide HR _ [t, e]⟩, ext2 _ _⟩
  · rw [if_neg (by simp [hk2])]
    by_cases hk1 : k = 1
    · subst hk1
      rw [if_pos (Or.inr rfl)]
      go_enter Try.func47, Try.ntmps47
      go_wp2_with fail
      go_ret
      exact ⟨⟨_, _, rfl, unhide HR _ [t]⟩, ext2 _ _⟩
    · rw [if_neg (by omega)]
      have e1 : (k == 1) = false := by simp [hk1]
      go_enter Try.func47, Try.ntmps47
      go_wp2_with fail
      go_ret
      exact ⟨⟨_, _, rfl, Or.inl rfl⟩, Ext.alloc _ _⟩

/-- Under way: of the first i blocks it is told where they lead. -/
structure GhI (w wr : World) (l : List RB) (P : Nat) (cs : List Value) (i : Nat) : Prop where
  ext : Ext w wr
  bP : w.heap.size ≤ P
  row : Row wr P 30 cs
  len : cs.length = l.length
  don : ∀ (k : Nat) (b : RB), k < i → l[k]? = some b → ∃ ia ic, cs[k]? = some (.slice ia (waysP b.t).length ic) ∧ RepI wr (fun q => q < wr.heap.size ∧ q ≠ P) ia (waysP b.t)
theorem GhI.step {w wr W w2 : World} {l : List RB} {P : Nat} {cs : List Value} {i ic : Nat} {ia : Option Addr} {b : RB} (h : GhI w wr l P cs i) (hi : l[i]? = some b) (x : Ext wr W) (x2 : Ext W w2)
    (hr : RepI w2 (fun q => W.heap.size ≤ q ∧ q < w2.heap.size) ia (waysP b.t)) : GhI w (w2.setCell ⟨P, i, none⟩ (.slice ia (waysP b.t).length ic)) l P (cs.set i (.slice ia (waysP b.t).length ic)) (i + 1) := by
  have hil := (List.getElem?_eq_some_iff.1 hi).1
  have hPw := k_lt h.row
  have sz : (w2.setCell ⟨P, i, none⟩ (.slice ia (waysP b.t).length ic)).heap.size = w2.heap.size := by simp only [World.setCell, Array.size_modify]
  have hx := x.size
  have hx2 := x2.size
  refine ⟨((h.ext.trans x).trans x2).set h.bP _, h.bP, (h.row.on (x.trans x2)).set i _, by rw [List.length_set]; exact h.len, fun k b2 hk hb => ?_⟩
  by_cases e : i = k
  · subst e
    rw [hi] at hb
    injection hb with hb
    subst hb
    refine ⟨ia, ic, by rw [List.getElem?_set, if_pos rfl, if_pos (by rw [h.len]; exact hil)], hr.to fun q hq => ⟨⟨by rw [sz]; exact hq.2, by omega⟩, k_row_other rfl (by omega) _ _⟩⟩
  · obtain ⟨ia2, ic2, h1, h2⟩ := h.don k b2 (by omega) hb
    refine ⟨ia2, ic2, by rw [List.getElem?_set, if_neg e]; exact h1, h2.to fun q hq => ⟨⟨by rw [sz]; omega, hq.2⟩, (k_row_other rfl hq.2 _ _).trans ((x.trans x2).block q hq.1)⟩⟩
theorem GhI.done {w wr : World} {l : List RB} {P : Nat} {cs : List Value} (h : GhI w wr l P cs l.length) : RepG wr (In wr) (some ⟨P, 0, none⟩) (l.map (fun b => waysP b.t)) := by
  refine Or.inr ⟨P, 0, rfl, k_lt h.row, fun j x hx => ?_⟩
  rw [List.getElem?_map] at hx
  cases hb : l[j]? with
  | none => rw [hb] at hx; cases hx
  | some b =>
    rw [hb] at hx
    injection hx with hx
    subst hx
    obtain ⟨ia, ic, h1, h2⟩ := h.don j b (List.getElem?_eq_some_iff.1 hb).1 hb
    refine ⟨ia, ic, ?_, h2.to fun q hq => ⟨hq.1, rfl⟩⟩
    rw [Nat.zero_add]
    exact h.row.cell j h1

set_option maxHeartbeats 2000000 in
theorem graph_w (nm : ByteArray) (ps rg : Int) (a : Option Addr) (c : Nat) (l : List RB) (ads : List (Option Addr × Nat)) (w : World) (hn : l.length ≤ 1000000) (hr : RepB w (In w) a l ads) :
    Calls Try.prog 34 #[rfV nm ps rg a l.length c] w fun e w' => ∃ P, e = .returned (.slice (some ⟨P, 0, none⟩) l.length l.length) ∧ w.heap.size ≤ P ∧ RepG w' (In w') (some ⟨P, 0, none⟩) (l.map (fun b => waysP b.t)) ∧ Ext w w' := by
  have HW := hide ways2_w
  have HR := hide hr
  have hmk := fun W => make_lists l.length hn W
  obtain ⟨n, hln⟩ : ∃ n, n = l.length := ⟨_, rfl⟩
  have HN := hide hln
  rw [← hln] at hn hmk ⊢
  obtain ⟨P, hP⟩ : ∃ P, P = w.heap.size + 1 := ⟨_, rfl⟩
  have S0 : Hd (GhI w ((w.alloc (.cells #[.string nm, .int .i64 ps, .int .i64 rg, .slice a n c] 24)).alloc (.cells (List.replicate n (Value.slice none 0 0)).toArray 30)) l P (List.replicate n (Value.slice none 0 0)) 0) := by
    refine ⟨ext2 _ _, by omega, ?_, by rw [hln]; simp, fun k _ hk => by omega⟩
    have := Row.new (w.alloc (.cells #[.string nm, .int .i64 ps, .int .i64 rg, .slice a n c] 24)) (List.replicate n (Value.slice none 0 0)) 30
    rw [sz1] at this
    rw [hP]
    exact this
  have HB0 : Hd (∀ W, Ext ((w.alloc (.cells #[.string nm, .int .i64 ps, .int .i64 rg, .slice a n c] 24)).alloc (.cells (List.replicate n (Value.slice none 0 0)).toArray 30)) W → True) := fun _ _ => trivial
  have HPe := hide hP
  clear hr hln
  go_enter Try.func34, Try.ntmps34
  go_wp2_with fail
  rw [← unhide HPe]
  clear hP hmk
  go_loopw [13] (fun t wr => ∃ (i : Nat) (cs : List Value), t = .int .i64 (i : Int) ∧ i ≤ n ∧ Hd (GhI w wr l P cs i)) (fun t _ => n - (intOf t).toNat)
  case atStart => exact ⟨0, _, rfl, by omega, S0⟩
  case round =>
    clear S0
    obtain ⟨i, cs, rfl, hi, hS⟩ := hrel
    by_cases hlt : i < n
    · obtain ⟨b, hb⟩ : ∃ b, l[i]? = some b := ⟨_, List.getElem?_eq_getElem (by rw [← unhide HN]; exact hlt)⟩
      obtain ⟨g, o, d, rfl, _, _, c0, c1, c2, c3, c4, _⟩ := ((unhide HR).ext (unhide hS).ext).at hb
      obtain ⟨v0, hv0⟩ : ∃ v0, cs[i]? = some v0 := ⟨_, List.getElem?_eq_getElem (by rw [(unhide hS).len, ← unhide HN]; exact hlt)⟩
      have Hb := hide hb
      have Hv := hide hv0
      have HC := hide (unhide HW b.t)
      obtain ⟨bc, bk, ba, bt, be⟩ := b
      simp only at HC c0 c1 c2 c3 c4
      have hlt2 : (i : Int) < (n : Int) := by omega
      clear hb hv0
      go_wp2_with (go_at_call 47; refine Calls.mono (unhide HC _) ?_; rintro e w2 ⟨⟨ia, ic, rfl, r2⟩, x2⟩; have rP := (unhide hS).row.on ((Ext.alloc wr _).trans x2); have y0 := rP.cell i (unhide Hv); have fP := (fun j : Nat => k_rowF rP j); have S2 := hide ((unhide hS).step (ic := ic) (unhide Hb) (Ext.alloc wr _) x2 r2); clear r2 x2 rP)
      go_roundw
      case rel => exact ⟨i + 1, _, by go_num, by omega, S2⟩
      case measure => simp [intOf]; omega
    · obtain rfl : i = n := by omega
      have HD : Hd (RepG wr (In wr) (some ⟨P, 0, none⟩) (l.map (fun b => waysP b.t))) := by
        have h3 := unhide hS
        have e : i = l.length := unhide HN
        rw [e] at h3
        exact h3.done
      have HX := hide (unhide hS).ext
      have HBp := hide (unhide hS).bP
      clear hS
      go_wp2_with fail
      go_ret
      exact ⟨P, rfl, unhide HBp, unhide HD, unhide HX⟩

end Go.Proofs.Ytdnhekgbfhlhoaa
