/- The writer of parse: one word. · The writer of parse: some words, one by one. · The operator that makes a node; how many operands it takes. · The writer of parse at expressions: as a plain function (names, small numbers, operators). -/
import Derived.Test.YtgkiihjakbnhcaaGreatDoorZc40
import Derived.Lib.AppendStr
set_option linter.unusedSimpArgs false
set_option linter.unusedVariables false
set_option maxRecDepth 10000

namespace Go.Proofs.YtgkiihjakbnhcaaGreatDoor
open Go.RowKit

/-- How long the text gets by a word. -/
def wdN (l : List UInt8) (s : ByteArray) : Nat := l.length + min 1 l.length + s.size
def wdL (l : List UInt8) (s : ByteArray) : List UInt8 := l ++ (if l.length = 0 then [] else [32]) ++ s.data.toList
theorem infoB : (Tryz.prog.info? 5).map (fun i => (i.zero, i.size, i.bytes)) = some (some (.int .u8 0), 1, 1) := by kernel_rfl

set_option maxHeartbeats 1000000 in
theorem word_long (g : Nat) (l : List UInt8) (n : Int) (b : Bool) (s : ByteArray) (w : World) (h : Wr w g l n b) (hl : l.length ≤ 4000) (hs : s.size ≤ 100000000) (hc : 4000 < wdN l s) :
    Calls Tryz.prog 85 #[.pointer (some ⟨g, 0, none⟩), .string s] w fun e w' => e = .returned (.tuple #[]) ∧ Wr w' g l n true ∧ WrK g w w' := by
  have HF := hide (wfail_any g l n b w h)
  obtain ⟨v, h1, h2⟩ := h.ex
  obtain ⟨a, cap, rfl⟩ : ∃ a cap, v = .slice a l.length cap := by
    obtain ⟨_, ⟨rfl, h0⟩ | ⟨b, cap, cur, rfl, _⟩⟩ := h2
    · exact ⟨none, 0, by rw [h0]⟩
    · exact ⟨_, _, rfl⟩
  have r0 := rowC h1 0 rfl
  unfold wdN at hc
  clear h h1 h2
  by_cases h0 : l.length = 0
  · rw [h0] at hc r0
    have hc : 4000 < s.size := by simpa using hc
    go_enter Tryz.func85, Tryz.ntmps85
    go_wp2_with (go_at_call 59; refine Calls.mono (unhide HF) ?_; rintro e w2 ⟨rfl, hs, hw⟩; have S2 := hide hs; have B2 := hide hw; clear hs hw)
    exact bodyPost_ret (v := .tuple #[]) (by simp [results, Tryz.results85]) rfl ⟨rfl, unhide S2, unhide B2⟩
  · obtain ⟨m, hm⟩ : ∃ m, l.length = m + 1 := ⟨l.length - 1, by omega⟩
    rw [hm] at hc r0
    have hc : 4000 < m + 1 + 1 + s.size := by have : min 1 (m + 1) = 1 := by omega
                                              rw [this] at hc; exact hc
    go_enter Tryz.func85, Tryz.ntmps85
    go_wp2_with (go_at_call 59; refine Calls.mono (unhide HF) ?_; rintro e w2 ⟨rfl, hs, hw⟩; have S2 := hide hs; have B2 := hide hw; clear hs hw)
    exact bodyPost_ret (v := .tuple #[]) (by simp [results, Tryz.results85]) rfl ⟨rfl, unhide S2, unhide B2⟩

theorem own_slice {w : World} {base n size : Nat} {e : TypeId} {v : Value} {xs : List Value} (h : w.ownsRow base e size v n xs) : ∃ a cap, v = .slice a n cap := by
  obtain ⟨_, ⟨rfl, h0⟩ | ⟨b, cap, cur, rfl, _⟩⟩ := h
  · exact ⟨none, 0, by rw [h0]⟩
  · exact ⟨_, _, rfl⟩

theorem own_not {g k : Nat} {w : World} {t : Value} {xs : List Value} (ho : w.ownsRow (g + 1) 5 1 t k xs) (e : t.ownBlock = some g) : False := by
  obtain ⟨_, h | ⟨b, cap, cur, h, hg, _⟩⟩ := ho
  · rw [h.1] at e; cases e
  · rw [h] at e
    have : b = g := Option.some.inj e
    omega

section
variable {P : Program} {w : World}
/-- An append of a text onto a row of bytes of the call's own, as one step of a region that draws its order. -/
theorem step_append_str {ops : Array Oper} {o : Oper} {a : Act} {K : Act → World → Prop} {Q : Exit → Act → World → Prop} {E : Prop}
    (hg : o.guard = none) (sl x : Operand) (t u : TypeId) (hop : o.op = Op.call { callee := Callee.builtin Builtin.append, args := #[sl, x], argTypes := #[t, u] })
    (base : Nat) (e : TypeId) (i : TypeInfo) (ht : P.underlying t = some (.slice e)) (hu : P.underlying u = some .string) (hi : P.info? e = some i) (hz : i.zero = some (.int .u8 0))
    (hsize : i.size = 1) (hby : i.bytes = 1)
    (v : Value) (n : Nat) (xs : List Value) (hs : a.eval sl = v) (hown : w.ownsRow base e 1 v n xs) (s : ByteArray) (hx : a.eval x = .string s)
    (h63 : n + s.size ≤ maxLen) (hbytes : n + s.size ≤ 140737488355328) (hbase : base ≤ w.heap.size)
    (hK : ∀ v' w', w'.ownsRow base e 1 v' (n + s.size) (xs ++ Lib.strCells s) → w.grownBy w' v.ownBlock → K (a.put o.dst v') w') :
    if Region.wanted o (yielded ops a.tmps) = true then Oper.wp P o a w K Q else E := by
  have hw : Region.wanted o (yielded ops a.tmps) = true := by simp [Region.wanted, hg]
  rw [if_pos hw]
  obtain ⟨v', w', hr, h2, h3, _⟩ := Lib.run_append_own_string (P := P) w base t u o.type e i ht hu hi hz hsize hby v n xs hown s h63 hbytes hbase
  unfold Oper.wp
  simp [execOp, hop, resolve, invoke, builtin, hs, hx, hr, Result.andThen]
  exact hK v' w' h2 h3
end

set_option maxHeartbeats 1000000 in
theorem word_fits (g : Nat) (l : List UInt8) (n : Int) (b : Bool) (s : ByteArray) (w : World) (h : Wr w g l n b) (hc : wdN l s ≤ 4000) :
    Calls Tryz.prog 85 #[.pointer (some ⟨g, 0, none⟩), .string s] w fun e w' => e = .returned (.tuple #[]) ∧ Wr w' g (wdL l s) n b ∧ WrK g w w' := by
  have hglt := h.lt
  obtain ⟨v, h1, h2⟩ := h.ex
  obtain ⟨i0, hi, hz0, hz1, hz2⟩ := info_parts infoB
  have HI := hide hi
  have Z0 := hide hz0
  have Z1 := hide hz1
  have Z2 := hide hz2
  clear hi hz0 hz1 hz2
  obtain ⟨a, cap, rfl⟩ : ∃ a cap, v = .slice a l.length cap := by
    obtain ⟨_, ⟨rfl, h0⟩ | ⟨b, cap, cur, rfl, _⟩⟩ := h2
    · exact ⟨none, 0, by rw [h0]⟩
    · exact ⟨_, _, rfl⟩
  have r0 := rowC h1 0 rfl
  have rf := rowF h1
  have H1 := hide h1
  have H2 := hide h2
  unfold wdN at hc
  clear h h1 h2
  by_cases h0 : l.length = 0
  · obtain rfl := List.length_eq_zero_iff.1 h0
    have hc : s.size ≤ 4000 := by simpa using hc
    have hm : min (1 : Int) 0 = 0 := rfl
    have r0 : w.cell? ⟨g, 0, none⟩ = some (.slice a 0 cap) := r0
    have H2 : Hd (w.ownsRow (g + 1) 5 1 (.slice a 0 cap) 0 []) := H2
    have H1 : Hd (w.heap[g]? = some (wrO (.slice a 0 cap) n b)) := H1
    have hrow : Hd (∀ w1, w.drew.grownBy w1 (Value.slice a 0 cap).ownBlock → w1.heap[g]? = some (wrO (.slice a 0 cap) n b)) := fun w1 hg => (hg.block g hglt (fun e => by
      obtain ⟨_, h | ⟨b', c', cu, h, hb, _⟩⟩ := unhide H2
      · rw [h.1] at e; cases e
      · rw [h] at e; have e2 : b' = g := (by first | exact Option.some.inj e | exact (Option.some.inj e).symm); omega)).trans (unhide H1)
    clear h0
    go_enter Tryz.func85, Tryz.ntmps85
    go_wp2_with fail
    go_region_law (refine step_append_str rfl (.tmp 28) (.tmp 30) 73 9 rfl (g + 1) 5 i0 Tryz.underlying73 Tryz.underlying9 (unhide HI) (unhide Z0) (unhide Z1) (unhide Z2) _ 0 _ (by simp [Act.eval, Act.put]) (own_ext (unhide H2) (Ext.drew (Ext.refl w))) ByteArray.empty (by simp [Act.eval, Act.put]) (by decide) (by decide) (by simp; omega) ?_; intro v1 w1 ho hg1; obtain ⟨a1, cap1, rfl⟩ := own_slice ho; have O1 := hide ho; have G1 := hide hg1; have hr1 := unhide hrow w1 hg1; have rg := rowF hr1; have rz := rowC hr1 0 rfl; have HR := hide hr1; clear ho hg1 hr1)
    all_goals
      refine gen_world (F := fun W => Exit.then _ _ Exit.normal _ W) ?_
      intro W hW
      have O2 : Hd (W.ownsRow (g + 1) 5 1 (.slice a1 0 cap1) 0 []) := by rw [hW]; exact own_setW (unhide O1)
      have R2 : W.heap[g]? = some (wrO (.slice a1 0 cap1) n b) := by rw [hW]; exact row_set (unhide HR) 0 _
      have B2 : Hd (WrK g w W) := by rw [hW]; exact ((WrK.drew (WrK.refl g w)).grown (own_ext (unhide H2) (Ext.drew (Ext.refl w))) hglt (unhide G1)).setg _ _
      have hg2 : g < W.heap.size := (Array.getElem?_eq_some_iff.1 R2).1
      have q0 := rowC R2 0 rfl
      have qf := rowF R2
      have HR2 := hide R2
      clear hW rg rz r0 rf R2
      go_wp2_with (at_builtin; refine Lib.wpList_append_own_string _ rfl _ _ 73 9 rfl (g + 1) 5 i0 Tryz.underlying73 Tryz.underlying9 (unhide HI) (unhide Z0) (unhide Z1) (unhide Z2) _ 0 _ rfl (unhide O2) _ rfl ?c1 ?c2 ?c3 ?_)
      case c1 => unfold maxLen; omega
      case c2 => omega
      case c3 => omega
      intro v3 w3 ho3 hg3 _
      obtain ⟨a3, cap3, rfl⟩ := own_slice ho3
      have R3 : w3.heap[g]? = some (wrO (.slice a1 0 cap1) n b) := (hg3.block g hg2 (fun e => own_not (unhide O2) e.symm)).trans (unhide HR2)
      have B3 : Hd (WrK g w w3) := (unhide B2).grown (unhide O2) hg2 hg3
      have O3 := hide ho3
      have HR3 := hide R3
      have q3 := rowC R3 0 rfl
      have qf3 := rowF R3
      clear q0 qf ho3 hg3 R3
      go_wp2_with fail
      go_end0
      refine ⟨rfl, ⟨_, row_set (unhide HR3) 0 _, ?_⟩, (unhide B3).setg _ _⟩
      refine own_setW ?_
      have hO3 := unhide O3
      have e1 : wdL [] s = s.data.toList := by simp [wdL]
      rw [e1, show s.data.toList.length = s.size from Array.length_toList ..]
      exact hO3
  · have hne : 1 ≤ l.length := by omega
    have hc : l.length + 1 + s.size ≤ 4000 := by have : min 1 l.length = 1 := by omega
                                                 rw [this] at hc; exact hc
    have hm : min (1 : Int) (l.length : Int) = 1 := by omega
    have r0 : w.cell? ⟨g, 0, none⟩ = some (.slice a l.length cap) := r0
    have H2 : Hd (w.ownsRow (g + 1) 5 1 (.slice a l.length cap) l.length (l.map B)) := H2
    have H1 : Hd (w.heap[g]? = some (wrO (.slice a l.length cap) n b)) := H1
    have hrow : Hd (∀ w1, w.drew.grownBy w1 (Value.slice a l.length cap).ownBlock → w1.heap[g]? = some (wrO (.slice a l.length cap) n b)) := fun w1 hg => (hg.block g hglt (fun e => by
      obtain ⟨_, h | ⟨b', c', cu, h, hb, _⟩⟩ := unhide H2
      · rw [h.1] at e; cases e
      · rw [h] at e; have e2 : b' = g := (by first | exact Option.some.inj e | exact (Option.some.inj e).symm); omega)).trans (unhide H1)
    have h9 := h0
    clear h0
    go_enter Tryz.func85, Tryz.ntmps85
    go_wp2_with fail
    go_region_law (refine step_append_str rfl (.tmp 28) (.tmp 30) 73 9 rfl (g + 1) 5 i0 Tryz.underlying73 Tryz.underlying9 (unhide HI) (unhide Z0) (unhide Z1) (unhide Z2) _ l.length _ (by simp [Act.eval, Act.put]) (own_ext (unhide H2) (Ext.drew (Ext.refl w))) ⟨#[32]⟩ (by simp [Act.eval, Act.put]; rfl) (by show l.length + 1 ≤ _; unfold maxLen; omega) (by show l.length + 1 ≤ _; omega) (by simp; omega) ?_; intro v1 w1 ho hg1; obtain ⟨a1, cap1, rfl⟩ := own_slice ho; have O1 := hide ho; have G1 := hide hg1; have hr1 := unhide hrow w1 hg1; have rg := rowF hr1; have rz := rowC hr1 0 rfl; have HR := hide hr1; clear ho hg1 hr1)
    all_goals
      refine gen_world (F := fun W => Exit.then _ _ Exit.normal _ W) ?_
      intro W hW
      have O2 : Hd (W.ownsRow (g + 1) 5 1 (.slice a1 (l.length + 1) cap1) (l.length + 1) (l.map B ++ [.int .u8 32])) := by rw [hW]; exact own_setW (unhide O1)
      have R2 : W.heap[g]? = some (wrO (.slice a1 (l.length + 1) cap1) n b) := by rw [hW]; exact row_set (unhide HR) 0 _
      have B2 : Hd (WrK g w W) := by rw [hW]; exact ((WrK.drew (WrK.refl g w)).grown (own_ext (unhide H2) (Ext.drew (Ext.refl w))) hglt (unhide G1)).setg _ _
      have hg2 : g < W.heap.size := (Array.getElem?_eq_some_iff.1 R2).1
      have q0 := rowC R2 0 rfl
      have qf := rowF R2
      have HR2 := hide R2
      clear hW rg rz r0 rf R2
      go_wp2_with (at_builtin; refine Lib.wpList_append_own_string _ rfl _ _ 73 9 rfl (g + 1) 5 i0 Tryz.underlying73 Tryz.underlying9 (unhide HI) (unhide Z0) (unhide Z1) (unhide Z2) _ (l.length + 1) _ rfl (unhide O2) _ rfl ?c1 ?c2 ?c3 ?_)
      case c1 => unfold maxLen; omega
      case c2 => omega
      case c3 => omega
      intro v3 w3 ho3 hg3 _
      obtain ⟨a3, cap3, rfl⟩ := own_slice ho3
      have R3 : w3.heap[g]? = some (wrO (.slice a1 (l.length + 1) cap1) n b) := (hg3.block g hg2 (fun e => own_not (unhide O2) e.symm)).trans (unhide HR2)
      have B3 : Hd (WrK g w w3) := (unhide B2).grown (unhide O2) hg2 hg3
      have O3 := hide ho3
      have HR3 := hide R3
      have q3 := rowC R3 0 rfl
      have qf3 := rowF R3
      clear q0 qf ho3 hg3 R3
      go_wp2_with fail
      go_end0
      refine ⟨rfl, ⟨_, row_set (unhide HR3) 0 _, ?_⟩, (unhide B3).setg _ _⟩
      refine own_setW ?_
      have hO3 := unhide O3
      have e1 : wdL l s = l ++ [32] ++ s.data.toList := by unfold wdL; rw [if_neg h9]
      have e2 : (wdL l s).length = l.length + 1 + s.size := by rw [e1, List.length_append, List.length_append, show s.data.toList.length = s.size from Array.length_toList ..]; rfl
      have e3 : (wdL l s).map B = l.map B ++ [.int .u8 32] ++ Lib.strCells s := by rw [e1, List.map_append, List.map_append]; rfl
      rw [e2, e3, List.append_assoc]
      exact hO3

end Go.Proofs.YtgkiihjakbnhcaaGreatDoor

namespace Go.Proofs.YtgkiihjakbnhcaaGreatDoor
open Go.RowKit

/-- A word laid down, or why not. -/
def wdS (p : List UInt8 × Bool) (s : ByteArray) : List UInt8 × Bool := if 4000 < wdN p.1 s then (p.1, true) else (wdL p.1 s, p.2)
theorem wdS_len {p : List UInt8 × Bool} (h : p.1.length ≤ 4000) (s : ByteArray) : (wdS p s).1.length ≤ 4000 := by
  unfold wdS
  split
  · exact h
  · rename_i hc
    unfold wdN at hc
    unfold wdL
    rw [List.length_append, List.length_append, show s.data.toList.length = s.size from Array.length_toList ..]
    split
    · simp; omega
    · simp; omega

theorem wordW_any (g : Nat) (p : List UInt8 × Bool) (n : Int) (s : ByteArray) (w : World) (h : Wr w g p.1 n p.2) (hl : p.1.length ≤ 4000) (hs : s.size ≤ 100000000) :
    Calls Tryz.prog 85 #[.pointer (some ⟨g, 0, none⟩), .string s] w fun e w' => e = .returned (.tuple #[]) ∧ Wr w' g (wdS p s).1 n (wdS p s).2 ∧ WrK g w w' := by
  unfold wdS
  by_cases hc : 4000 < wdN p.1 s
  · rw [if_pos hc]
    exact word_long g p.1 n p.2 s w h hl hs hc
  · rw [if_neg hc]
    exact word_fits g p.1 n p.2 s w h (by omega)

/-- Some words laid down. -/
def wdsS : List UInt8 × Bool → List ByteArray → List UInt8 × Bool
  | p, [] => p
  | p, s :: r => wdsS (wdS p s) r
theorem wdsS_len : ∀ (ss : List ByteArray) {p : List UInt8 × Bool}, p.1.length ≤ 4000 → (wdsS p ss).1.length ≤ 4000 := by
  intro ss
  induction ss with
  | nil => intro p h; exact h
  | cons s r ih => intro p h; rw [wdsS]; exact ih (wdS_len h s)
abbrev strO (ss : List ByteArray) : Obj := .cells (ss.map Value.string).toArray 9 (0, 0)
theorem strO_not {w : World} {k : Nat} {ss : List ByteArray} (h : w.heap[k]? = some (strO ss)) : NotB (w.heap[k]?) := by
  intro cs f e
  rw [h] at e
  injection e with e
  injection e with _ e _
  exact absurd e (by decide)

set_option maxHeartbeats 1000000 in
theorem words_any (g : Nat) (p : List UInt8 × Bool) (n : Int) (ss : List ByteArray) (k c : Nat) (w : World) (h : Wr w g p.1 n p.2) (hl : p.1.length ≤ 4000) (hs : ∀ s ∈ ss, s.size ≤ 100000000) (hk : w.heap[k]? = some (strO ss)) (hkg : k ≠ g) (hn : ss.length ≤ 1000) :
    Calls Tryz.prog 55 #[.pointer (some ⟨g, 0, none⟩), .slice (some ⟨k, 0, none⟩) ss.length c] w fun e w' => e = .returned (.tuple #[]) ∧ Wr w' g (wdsS p ss).1 n (wdsS p ss).2 ∧ WrK g w w' := by
  have HW := hide (fun (p : List UInt8 × Bool) (s : ByteArray) (W : World) (h : Wr W g p.1 n p.2) (hl : p.1.length ≤ 4000) (hs : s.size ≤ 100000000) => wordW_any g p n s W h hl hs)
  have HS := hide hs
  have HK := hide hk
  have HN := hide (strO_not hk)
  have hkl : k < w.heap.size := (Array.getElem?_eq_some_iff.1 hk).1
  have H0 := hide h
  have HL := hide hl
  clear h hl hs hk
  obtain ⟨R, hR⟩ : ∃ R, R = wdsS p ss := ⟨_, rfl⟩
  rw [← hR]
  have HR : Hd (wdsS p (ss.drop 0) = R) := hR.symm
  clear hR
  generalize hM : ss.length = m at *
  go_enter Tryz.func55, Tryz.ntmps55
  go_wp2_with fail
  go_loopw [8] (fun t wr => ∃ (j : Nat) (q : List UInt8 × Bool), t = .int .i64 j ∧ j ≤ m ∧ Hd (wdsS q (ss.drop j) = R) ∧ Hd (q.1.length ≤ 4000) ∧ Hd (Wr wr g q.1 n q.2) ∧ Hd (WrK g w wr)) (fun t _ => m - (intOf t).toNat)
  case atStart => exact ⟨0, p, rfl, by omega, HR, HL, H0, WrK.refl g w⟩
  case round =>
    clear HR HL H0
    obtain ⟨j, q, rfl, hj, hE, hQ, hW, hF⟩ := hrel
    by_cases hlt : j < m
    · obtain ⟨s, hs⟩ : ∃ s, ss[j]? = some s := ⟨_, List.getElem?_eq_getElem (by omega)⟩
      have hd : ss.drop j = s :: ss.drop (j + 1) := by
        obtain ⟨h1, h2⟩ := List.getElem?_eq_some_iff.1 hs
        rw [List.drop_eq_getElem_cons h1, h2]
      have hE2 := unhide hE
      rw [hd, wdsS] at hE2
      have HE2 := hide hE2
      have hrow := ((unhide hF).keep k hkl hkg (unhide HN)).trans (unhide HK)
      have hc : wr.cell? ⟨k, j, none⟩ = some (.string s) := rowC hrow j (by simp [hs])
      have hss := hide (unhide HS s (List.mem_of_getElem? hs))
      clear hE2 hd hs hrow
      go_wp2_with (go_at_call 85; refine Calls.mono (unhide HW q s _ (unhide hW) (unhide hQ) (unhide hss)) ?_; rintro e w2 ⟨rfl, h2, k2⟩; have W2 := hide h2; have K2 := hide ((unhide hF).trans k2); clear h2 k2)
      go_roundw
      case rel => exact ⟨j + 1, wdS q s, by go_num, by omega, HE2, wdS_len (unhide hQ) s, W2, K2⟩
      case measure => simp [intOf]; omega
    · obtain rfl : j = m := by omega
      have HQR : Hd (q = R) := by
        have := unhide hE
        rw [List.drop_eq_nil_of_le (by omega)] at this
        exact this
      go_wp2_with fail
      go_end0
      rw [← unhide HQR]
      exact ⟨rfl, unhide hW, unhide hF⟩

end Go.Proofs.YtgkiihjakbnhcaaGreatDoor

namespace Go.Proofs.YtgkiihjakbnhcaaGreatDoor
open Go.RowKit

def ndHit (kd op : Int) (x : Opr) : Bool := (x.k == kd) && (x.o == op)
def ofNd (kd op : Int) : Option Opr := oprs.find? (ndHit kd op)
theorem find_stepN {kd op : Int} {j : Nat} {x : Opr} (h : oprs[j]? = some x) (hn : ∀ y ∈ oprs.take j, ndHit kd op y = false) : if ndHit kd op x then ofNd kd op = some x else ∀ y ∈ oprs.take (j + 1), ndHit kd op y = false := by
  obtain ⟨hj, hx0⟩ := List.getElem?_eq_some_iff.1 h
  have hd : oprs = oprs.take j ++ x :: oprs.drop (j + 1) := by
    rw [← hx0, ← List.drop_eq_getElem_cons hj, List.take_append_drop]
  split
  · rename_i hx
    unfold ofNd
    rw [hd, List.find?_append, List.find?_eq_none.2 (fun y hy => by rw [hn y hy]; decide)]
    simp [hx]
  · rename_i hx
    intro y hy
    rw [List.take_succ_eq_append_getElem hj, hx0] at hy
    rcases List.mem_append.1 hy with hy | hy
    · exact hn y hy
    · rw [List.mem_singleton.1 hy]; simpa using hx
theorem find_noneN {kd op : Int} (hn : ∀ y ∈ oprs.take 16, ndHit kd op y = false) : ofNd kd op = none :=
  List.find?_eq_none.2 (fun y hy => by rw [hn y hy]; decide)

set_option maxHeartbeats 2000000 in
theorem ofNode_any (kd op : Int) (w : World) (hO : Opx w) :
    Calls Tryz.prog 82 #[.int .i64 kd, .int .i64 op] w fun e w' => e = .returned (.tuple #[oprV ((ofNd kd op).getD oprZ), .bool (ofNd kd op).isSome]) ∧ Ext w w' := by
  have HL := hide (hO.ext (Ext.alloc w (.cells #[.string ⟨#[]⟩, .int .i64 0, .int .i64 0, .int .i64 0] 87)))
  have HX := hide opx_at
  have HZ : Hd ((Tryz.prog.info? 117).map (·.size) = some opTab.length) := by unfold Hd; kernel_rfl
  unfold Opx at HL
  generalize opTab = tab at HL HX HZ
  clear hO
  go_enter Tryz.func82, Tryz.ntmps82
  go_wp2_with (refine wpList_load_mid rfl 117 (.global 0) rfl 0 0 rfl tab _ (unhide HL) Tryz.underlying117 rfl (unhide HZ) ?_)
  go_loopw [9] (fun i wr => ∃ j : Nat, i = .int .i64 j ∧ j ≤ 16 ∧ Hd (∀ y ∈ oprs.take j, ndHit kd op y = false) ∧ Hd (Ext w wr) ∧ Hd (wr.heap[w.heap.size]? = some (oprO oprZ))) (fun i _ => 16 - (intOf i).toNat)
  case atStart => exact ⟨0, rfl, by omega, fun y hy => by simp at hy, Ext.alloc _ _, Go.heap_alloc_new w _⟩
  case round =>
    obtain ⟨j, rfl, hj, hN, hE, hR⟩ := hrel
    by_cases hlt : j < 16
    · obtain ⟨x, hx⟩ : ∃ x, oprs[j]? = some x := ⟨_, List.getElem?_eq_getElem hlt⟩
      have hix := unhide HX j x hx
      have hst := find_stepN hx (unhide hN)
      cases h1 : (x.k == kd)
      · have hh : ndHit kd op x = false := by unfold ndHit; rw [h1]; rfl
        rw [hh, if_neg (by decide)] at hst
        have HN2 := hide hst
        clear hst hh hx
        go_wp2
        go_roundw
        case rel => exact ⟨j + 1, by go_num, by omega, HN2, (unhide hE).trans (Ext.alloc _ _), (Ext.alloc _ _).row (unhide hR)⟩
        case measure => simp [intOf]; omega
      · cases h2 : (x.o == op)
        · have hh : ndHit kd op x = false := by unfold ndHit; rw [h1, h2]; rfl
          rw [hh, if_neg (by decide)] at hst
          have HN2 := hide hst
          clear hst hh hx
          go_wp2
          go_roundw
          case rel => exact ⟨j + 1, by go_num, by omega, HN2, (unhide hE).trans (Ext.alloc _ _), (Ext.alloc _ _).row (unhide hR)⟩
          case measure => simp [intOf]; omega
        · have hh : ndHit kd op x = true := by unfold ndHit; rw [h1, h2]; rfl
          rw [hh, if_pos rfl] at hst
          have HST := hide hst
          have r0 := rowC (unhide hR) 0 rfl
          have r1 := rowC (unhide hR) 1 rfl
          have r2 := rowC (unhide hR) 2 rfl
          have r3 := rowC (unhide hR) 3 rfl
          have rz := rowF (unhide hR)
          have hlt2 : w.heap.size < wr.heap.size := (Array.getElem?_eq_some_iff.1 (unhide hR)).1
          have q0 := setO_past (unhide hR) x 0 _ rfl
          have q1 := setO_past (unhide hR) x 1 _ rfl
          have q2 := setO_past (unhide hR) x 2 _ rfl
          have q3 := setO_past (unhide hR) x 3 _ rfl
          clear hst hh hx
          go_wp2
          exact bodyPost_ret (v := .tuple #[oprV x, .bool true]) (by simp [results, Tryz.results82, go_sem, q0, q1, q2, q3]) rfl ⟨by rw [unhide HST]; rfl, (setO_ext (unhide hE) _ (Nat.le_refl _) _).trans (Ext.alloc _ _)⟩
    · have : j = 16 := by omega
      subst this
      have HST := hide (find_noneN (unhide hN))
      have r0 := rowC (unhide hR) 0 rfl
      have r1 := rowC (unhide hR) 1 rfl
      have r2 := rowC (unhide hR) 2 rfl
      have r3 := rowC (unhide hR) 3 rfl
      have rz := rowF (unhide hR)
      go_wp2
      exact bodyPost_ret (v := .tuple #[oprV oprZ, .bool false]) (by simp [results, Tryz.results82, go_sem, r0, r1, r2, r3, oprZ]) rfl ⟨by rw [unhide HST]; rfl, setO_ext (unhide hE) _ (Nat.le_refl _) oprZ⟩

set_option maxHeartbeats 1000000 in
theorem places_any (o : Opr) (w : World) : Calls Tryz.prog 83 #[oprV o] w fun e w' => e = .returned (.int .i64 (if o.lv = 6 then 1 else 2)) ∧ Ext w w' := by
  obtain ⟨s, lv, k, op⟩ := o
  by_cases h : lv = 6
  · subst h
    rw [if_pos rfl]
    go_enter Tryz.func83, Tryz.ntmps83
    go_wp2_with fail
    go_ret
    exact ⟨rfl, Ext.alloc _ _⟩
  · have hb : (lv == 6) = false := by rw [beq_eq_false_iff_ne]; exact h
    have e : (if (Opr.mk s lv k op).lv = 6 then (1 : Int) else 2) = 2 := if_neg h
    rw [e]
    clear h e
    go_enter Tryz.func83, Tryz.ntmps83
    go_wp2_with fail
    go_ret
    exact ⟨rfl, Ext.alloc _ _⟩

end Go.Proofs.YtgkiihjakbnhcaaGreatDoor

namespace Go.Proofs.YtgkiihjakbnhcaaGreatDoor
open Go.RowKit

/-- What a writer has: its text, whether there can be none, how many nodes. -/
abbrev WS3 : Type := (List UInt8 × Bool) × Int
def wW (x : WS3) (ss : List ByteArray) : WS3 := (wdsS x.1 ss, x.2)
/-- An operator and its operands. -/
def wJ (E : PN → Int → WS3 → Option WS3) (o : Opr) (l : List PN) (x : WS3) : Option WS3 :=
  if o.lv = 6 then (match l with
    | [a] => E a 6 (wW x [o.s])
    | _ => none)
  else match l with
    | [a, b] =>
      if o.lv = 7 then (match E a 7 x with
        | none => none
        | some y => match E b 1 (wW y [⟨#[91]⟩]) with
          | none => none
          | some z => some (wW z [⟨#[93]⟩]))
      else if o.lv = 3 then (match E a 4 x with
        | none => none
        | some y => E b 4 (wW y [o.s]))
      else (match E a o.lv x with
        | none => none
        | some y => E b (o.lv + 1) (wW y [o.s]))
    | _ => none
/-- A node with an operator. -/
def wO (E : PN → Int → WS3 → Option WS3) (p : PN) (least : Int) (x : WS3) : Option WS3 :=
  match ofNd p.k p.o with
  | none => some ((x.1.1, true), x.2)
  | some o => if (p.l.length : Int) = (if o.lv = 6 then 1 else 2) then
      (if least ≤ o.lv then wJ E o p.l x else (match wJ E o p.l (wW x [⟨#[40]⟩]) with
        | none => none
        | some y => some (wW y [⟨#[41]⟩])))
    else some ((x.1.1, true), x.2)
def dig1 (n : Int) : ByteArray := ⟨#[UInt8.ofNat (48 + n.toNat)]⟩
def wE : Nat → PN → Int → WS3 → Option WS3
  | 0, _, _, _ => none
  | f + 1, p, least, x =>
    if 0 ≤ x.2 ∧ x.2 ≤ 100000 ∧ p.s.size ≤ 100000000 then
      (if entN x.2 x.1.2 then some ((x.1.1, true), x.2 + 1)
      else if p.k = 11 ∨ p.k = 12 ∨ p.k = 13 ∨ p.k = 14 then wO (wE f) p least ((x.1.1, false), x.2 + 1)
      else if p.k = 15 then (if 0 ≤ p.n ∧ p.n < 10 then some (wW ((x.1.1, false), x.2 + 1) [dig1 p.n]) else none)
      else if p.k = 18 then some (wW ((x.1.1, false), x.2 + 1) [⟨#[110, 105, 108]⟩])
      else if p.k = 19 then some (wW ((x.1.1, false), x.2 + 1) [p.s])
      else none)
    else none

/-- What a call of one of the writer's functions leaves. -/
def WrE (g : Nat) (w : World) (y : WS3) (e : Ending) (w' : World) : Prop := e = .returned (.tuple #[]) ∧ Wr w' g y.1.1 y.2 y.1.2 ∧ y.1.1.length ≤ 4000 ∧ WrK g w w'
/-- A writer that stands so, the tree below it. -/
structure WrI (w : World) (g : Nat) (x : WS3) : Prop where
  wr : Wr w g x.1.1 x.2 x.1.2
  len : x.1.1.length ≤ 4000
  op : Opx w
  pos : 0 < g
theorem Opx.wrk {g : Nat} {w w' : World} (h : Opx w) (k : WrK g w w') (hg : 0 < g) : Opx w' := fun j v hv => by
  rw [World.cell?_of_block (w := w) (k.low _ hg)]
  exact h j v hv
theorem WrI.go {g : Nat} {w w' : World} {x y : WS3} (h : WrI w g x) (k : WrK g w w') (s : Wr w' g y.1.1 y.2 y.1.2) (hl : y.1.1.length ≤ 4000) : WrI w' g y := ⟨s, hl, h.op.wrk k h.pos, h.pos⟩
theorem WrI.ext {g : Nat} {w w' : World} {x : WS3} (h : WrI w g x) (k : Ext w w') : WrI w' g x := ⟨h.wr.ext k, h.len, h.op.ext k, h.pos⟩
theorem RepN.wrk {g : Nat} {w w' : World} {p : PN} {v : Value} (h : RepN w (fun b => b < g) p v) (k : WrK g w w') : RepN w' (fun b => b < g) p v := RepN.to (fun b hb => ⟨hb, k.low b hb⟩) p v h
theorem RepNL.wrk {g : Nat} {w w' : World} {l : List PN} {a : Option Addr} (h : RepNL w (fun b => b < g) l a) (k : WrK g w w') : RepNL w' (fun b => b < g) l a := RepNL.to (fun b hb => ⟨hb, k.low b hb⟩) l a h
theorem RepN.low' {g : Nat} {w w' : World} {p : PN} {v : Value} (h : RepN w (fun b => b < g) p v) (hg : g ≤ w.heap.size) (k : Ext w w') : RepN w' (fun b => b < g) p v := RepN.to (fun b hb => ⟨hb, k.block b (by omega)⟩) p v h

/-- Some words at a call that has laid their row last. -/
theorem words_new (g : Nat) (x : WS3) (ss : List ByteArray) (w : World) (h : WrI w g x) (hs : ∀ s ∈ ss, s.size ≤ 100000000) (hn : ss.length ≤ 1000) :
    Calls Tryz.prog 55 #[.pointer (some ⟨g, 0, none⟩), .slice (some ⟨w.heap.size, 0, none⟩) ss.length ss.length] (w.alloc (.cells (ss.map Value.string).toArray 9)) (WrE g w (wW x ss)) := by
  have hg := h.wr.lt
  refine Calls.mono (words_any g x.1 x.2 ss w.heap.size ss.length _ (h.wr.ext (Ext.alloc _ _)) h.len hs (Go.heap_alloc_new w _) (by omega) hn) ?_
  rintro e w' ⟨rfl, h2, h3⟩
  exact ⟨rfl, h2, wdsS_len ss h.len, (WrK.ext (Ext.alloc _ _) hg).trans h3⟩
theorem words1 (g : Nat) (x : WS3) (s : ByteArray) (w : World) (k : Nat) (hk : k = w.heap.size) (h : WrI w g x) (hs : s.size ≤ 100000000) :
    Calls Tryz.prog 55 #[.pointer (some ⟨g, 0, none⟩), .slice (some ⟨k, 0, none⟩) 1 1] (w.alloc (.cells #[.string s] 9)) (WrE g w (wW x [s])) := by
  subst hk
  exact words_new g x [s] w h (fun t ht => by rw [List.mem_singleton.1 ht]; exact hs) (by simp)

/-- What is asked of the function that lays down an expression. -/
def ExW (g : Nat) (E : PN → Int → WS3 → Option WS3) : Prop := ∀ (p : PN) (least : Int) (x y : WS3) (v : Value) (W : World), E p least x = some y → WrI W g x → RepN W (fun b => b < g) p v → Calls Tryz.prog 33 #[.pointer (some ⟨g, 0, none⟩), v, .int .i64 least] W (WrE g W y)

theorem oprO_not {w : World} {k : Nat} {o : Opr} (h : w.heap[k]? = some (oprO o)) : NotB (w.heap[k]?) := by
  intro cs f e
  rw [h] at e
  injection e with e
  injection e with _ e _
  exact absurd e (by decide)
theorem nodO_not {w : World} {k : Nat} {cs : Array Value} (h : w.heap[k]? = some (.cells cs 28 (0, 0))) : NotB (w.heap[k]?) := by
  intro cs f e
  rw [h] at e
  injection e with e
  injection e with _ e _
  exact absurd e (by decide)
/-- The cells of a tree in a list, in a world behind. -/
theorem repNL_at {w : World} {F : Nat → Prop} : ∀ {l : List PN} {a : Option Addr}, RepNL w F l a → ∀ (i : Nat) (p : PN), l[i]? = some p → ∃ b off c0 c1 c2 c3 c4, a = some ⟨b, off, none⟩ ∧ F b ∧ RepN w F p (.agg #[c0, c1, c2, c3, c4]) ∧
      w.cell? ⟨b, off + i * 5, none⟩ = some c0 ∧ w.cell? ⟨b, off + i * 5 + 1, none⟩ = some c1 ∧ w.cell? ⟨b, off + i * 5 + 2, none⟩ = some c2 ∧ w.cell? ⟨b, off + i * 5 + 3, none⟩ = some c3 ∧ w.cell? ⟨b, off + i * 5 + 4, none⟩ = some c4 := by
  intro l
  induction l with
  | nil => intro a _ i p h; simp at h
  | cons x xs ih =>
    intro a h i p hp
    rw [RepNL] at h
    obtain ⟨b, off, c0, c1, c2, c3, c4, rfl, hf, hr, h0, h1, h2, h3, h4, hrest⟩ := h
    cases i with
    | zero =>
      simp at hp
      subst hp
      refine ⟨b, off, c0, c1, c2, c3, c4, rfl, hf, hr, ?_⟩
      rw [Nat.zero_mul, Nat.add_zero]
      exact ⟨h0, h1, h2, h3, h4⟩
    | succ j =>
      simp at hp
      obtain ⟨b', off', d0, d1, d2, d3, d4, he, r⟩ := ih hrest j p hp
      injection he with he
      injection he with e1 e2
      subst e1 e2
      refine ⟨b, off, d0, d1, d2, d3, d4, rfl, ?_⟩
      rw [show off + (j + 1) * 5 = off + 5 + j * 5 by omega]
      exact r

end Go.Proofs.YtgkiihjakbnhcaaGreatDoor
