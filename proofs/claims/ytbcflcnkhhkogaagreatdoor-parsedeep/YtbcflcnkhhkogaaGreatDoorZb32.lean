/- The writer of parse: one word. -/
import Derived.Test.YtbcflcnkhhkogaaGreatDoorZb31
import Derived.Lib.AppendStr
set_option linter.unusedSimpArgs false
set_option linter.unusedVariables false
set_option maxRecDepth 10000

namespace Go.Proofs.YtbcflcnkhhkogaaGreatDoor
open Go.RowKit

/-- How long the text gets by a word. -/
def wdN (l : List UInt8) (s : ByteArray) : Nat := l.length + min 1 l.length + s.size
def wdL (l : List UInt8) (s : ByteArray) : List UInt8 := l ++ (if l.length = 0 then [] else [32]) ++ s.data.toList
theorem infoB : (Tryz.prog.info? 5).map (fun i => (i.zero, i.size, i.bytes)) = some (some (.int .u8 0), 1, 1) := by kernel_rfl

set_option maxHeartbeats 1000000 in
theorem word_long (g : Nat) (l : List UInt8) (n : Int) (b : Bool) (s : ByteArray) (w : World) (h : Wr w g l n b) (hl : l.length ≤ 4000) (hs : s.size ≤ 100000000) (hc : 4000 < wdN l s) :
    Calls Tryz.prog 99 #[.pointer (some ⟨g, 0, none⟩), .string s] w fun e w' => e = .returned (.tuple #[]) ∧ Wr w' g l n true ∧ WrK g w w' := by
  have HF := hide (wfail_any g l n b w h)
  obtain ⟨v, h1, h2⟩ := h.ex
  obtain ⟨a, cap, rfl⟩ : ∃ a cap, v = .slice a l.length cap := by
    obtain ⟨_, ⟨rfl, h0⟩ | ⟨b, cap, cur, rfl, _⟩⟩ := h2
    · exact ⟨none, 0, by rw [h0]⟩
    · exact ⟨_, _, rfl⟩
  have r0 := rowC h1 0 rfl
  unfold wdN at hc
  clear h h1 h2
  by_cases h0 : l.length = 0
  · rw [h0] at hc r0
    have hc : 4000 < s.size := by simpa using hc
    go_enter Tryz.func99, Tryz.ntmps99
    go_wp2_with (go_at_call 69; refine Calls.mono (unhide HF) ?_; rintro e w2 ⟨rfl, hs, hw⟩; have S2 := hide hs; have B2 := hide hw; clear hs hw)
    exact bodyPost_ret (v := .tuple #[]) (by simp [results, Tryz.results99]) rfl ⟨rfl, unhide S2, unhide B2⟩
  · obtain ⟨m, hm⟩ : ∃ m, l.length = m + 1 := ⟨l.length - 1, by omega⟩
    rw [hm] at hc r0
    have hc : 4000 < m + 1 + 1 + s.size := by have : min 1 (m + 1) = 1 := by omega
                                              rw [this] at hc; exact hc
    go_enter Tryz.func99, Tryz.ntmps99
    go_wp2_with (go_at_call 69; refine Calls.mono (unhide HF) ?_; rintro e w2 ⟨rfl, hs, hw⟩; have S2 := hide hs; have B2 := hide hw; clear hs hw)
    exact bodyPost_ret (v := .tuple #[]) (by simp [results, Tryz.results99]) rfl ⟨rfl, unhide S2, unhide B2⟩

theorem own_slice {w : World} {base n size : Nat} {e : TypeId} {v : Value} {xs : List Value} (h : w.ownsRow base e size v n xs) : ∃ a cap, v = .slice a n cap := by
  obtain ⟨_, ⟨rfl, h0⟩ | ⟨b, cap, cur, rfl, _⟩⟩ := h
  · exact ⟨none, 0, by rw [h0]⟩
  · exact ⟨_, _, rfl⟩

theorem own_not {g k : Nat} {w : World} {t : Value} {xs : List Value} (ho : w.ownsRow (g + 1) 5 1 t k xs) (e : t.ownBlock = some g) : False := by
  obtain ⟨_, h | ⟨b, cap, cur, h, hg, _⟩⟩ := ho
  · rw [h.1] at e; cases e
  · rw [h] at e
    have : b = g := Option.some.inj e
    omega

section
variable {P : Program} {w : World}
/-- An append of a text onto a row of bytes of the call's own, as one step of a region that draws its order. -/
theorem step_append_str {ops : Array Oper} {o : Oper} {a : Act} {K : Act → World → Prop} {Q : Exit → Act → World → Prop} {E : Prop}
    (hg : o.guard = none) (sl x : Operand) (t u : TypeId) (hop : o.op = Op.call { callee := Callee.builtin Builtin.append, args := #[sl, x], argTypes := #[t, u] })
    (base : Nat) (e : TypeId) (i : TypeInfo) (ht : P.underlying t = some (.slice e)) (hu : P.underlying u = some .string) (hi : P.info? e = some i) (hz : i.zero = some (.int .u8 0))
    (hsize : i.size = 1) (hby : i.bytes = 1)
    (v : Value) (n : Nat) (xs : List Value) (hs : a.eval sl = v) (hown : w.ownsRow base e 1 v n xs) (s : ByteArray) (hx : a.eval x = .string s)
    (h63 : n + s.size ≤ maxLen) (hbytes : n + s.size ≤ 140737488355328) (hbase : base ≤ w.heap.size)
    (hK : ∀ v' w', w'.ownsRow base e 1 v' (n + s.size) (xs ++ Lib.strCells s) → w.grownBy w' v.ownBlock → K (a.put o.dst v') w') :
    if Region.wanted o (yielded ops a.tmps) = true then Oper.wp P o a w K Q else E := by
  have hw : Region.wanted o (yielded ops a.tmps) = true := by simp [Region.wanted, hg]
  rw [if_pos hw]
  obtain ⟨v', w', hr, h2, h3, _⟩ := Lib.run_append_own_string (P := P) w base t u o.type e i ht hu hi hz hsize hby v n xs hown s h63 hbytes hbase
  unfold Oper.wp
  simp [execOp, hop, resolve, invoke, builtin, hs, hx, hr, Result.andThen]
  exact hK v' w' h2 h3
end

set_option maxHeartbeats 1000000 in
theorem word_fits (g : Nat) (l : List UInt8) (n : Int) (b : Bool) (s : ByteArray) (w : World) (h : Wr w g l n b) (hc : wdN l s ≤ 4000) :
    Calls Tryz.prog 99 #[.pointer (some ⟨g, 0, none⟩), .string s] w fun e w' => e = .returned (.tuple #[]) ∧ Wr w' g (wdL l s) n b ∧ WrK g w w' := by
  have hglt := h.lt
  obtain ⟨v, h1, h2⟩ := h.ex
  obtain ⟨i0, hi, hz0, hz1, hz2⟩ := info_parts infoB
  have HI := hide hi
  have Z0 := hide hz0
  have Z1 := hide hz1
  have Z2 := hide hz2
  clear hi hz0 hz1 hz2
  obtain ⟨a, cap, rfl⟩ : ∃ a cap, v = .slice a l.length cap := by
    obtain ⟨_, ⟨rfl, h0⟩ | ⟨b, cap, cur, rfl, _⟩⟩ := h2
    · exact ⟨none, 0, by rw [h0]⟩
    · exact ⟨_, _, rfl⟩
  have r0 := rowC h1 0 rfl
  have rf := rowF h1
  have H1 := hide h1
  have H2 := hide h2
  unfold wdN at hc
  clear h h1 h2
  by_cases h0 : l.length = 0
  · obtain rfl := List.length_eq_zero_iff.1 h0
    have hc : s.size ≤ 4000 := by simpa using hc
    have hm : min (1 : Int) 0 = 0 := rfl
    have r0 : w.cell? ⟨g, 0, none⟩ = some (.slice a 0 cap) := r0
    have H2 : Hd (w.ownsRow (g + 1) 5 1 (.slice a 0 cap) 0 []) := H2
    have H1 : Hd (w.heap[g]? = some (wrO (.slice a 0 cap) n b)) := H1
    have hrow : Hd (∀ w1, w.drew.grownBy w1 (Value.slice a 0 cap).ownBlock → w1.heap[g]? = some (wrO (.slice a 0 cap) n b)) := fun w1 hg => (hg.block g hglt (fun e => by
      obtain ⟨_, h | ⟨b', c', cu, h, hb, _⟩⟩ := unhide H2
      · rw [h.1] at e; cases e
      · rw [h] at e; have e2 : b' = g := (by first | exact Option.some.inj e | exact (Option.some.inj e).symm); omega)).trans (unhide H1)
    clear h0
    go_enter Tryz.func99, Tryz.ntmps99
    go_wp2_with fail
    go_region_law (refine step_append_str rfl (.tmp 28) (.tmp 30) 66 9 rfl (g + 1) 5 i0 Tryz.underlying66 Tryz.underlying9 (unhide HI) (unhide Z0) (unhide Z1) (unhide Z2) _ 0 _ (by simp [Act.eval, Act.put]) (own_ext (unhide H2) (Ext.drew (Ext.refl w))) ByteArray.empty (by simp [Act.eval, Act.put]) (by decide) (by decide) (by simp; omega) ?_; intro v1 w1 ho hg1; obtain ⟨a1, cap1, rfl⟩ := own_slice ho; have O1 := hide ho; have G1 := hide hg1; have hr1 := unhide hrow w1 hg1; have rg := rowF hr1; have rz := rowC hr1 0 rfl; have HR := hide hr1; clear ho hg1 hr1)
    all_goals
      refine gen_world (F := fun W => Exit.then _ _ Exit.normal _ W) ?_
      intro W hW
      have O2 : Hd (W.ownsRow (g + 1) 5 1 (.slice a1 0 cap1) 0 []) := by rw [hW]; exact own_set (unhide O1)
      have R2 : W.heap[g]? = some (wrO (.slice a1 0 cap1) n b) := by rw [hW]; exact row_set (unhide HR) 0 _
      have B2 : Hd (WrK g w W) := by rw [hW]; exact ((WrK.drew (WrK.refl g w)).grown (own_ext (unhide H2) (Ext.drew (Ext.refl w))) hglt (unhide G1)).setg _ _
      have hg2 : g < W.heap.size := (Array.getElem?_eq_some_iff.1 R2).1
      have q0 := rowC R2 0 rfl
      have qf := rowF R2
      have HR2 := hide R2
      clear hW rg rz r0 rf R2
      go_wp2_with (at_builtin; refine Lib.wpList_append_own_string _ rfl _ _ 66 9 rfl (g + 1) 5 i0 Tryz.underlying66 Tryz.underlying9 (unhide HI) (unhide Z0) (unhide Z1) (unhide Z2) _ 0 _ rfl (unhide O2) _ rfl ?c1 ?c2 ?c3 ?_)
      case c1 => unfold maxLen; omega
      case c2 => omega
      case c3 => omega
      intro v3 w3 ho3 hg3 _
      obtain ⟨a3, cap3, rfl⟩ := own_slice ho3
      have R3 : w3.heap[g]? = some (wrO (.slice a1 0 cap1) n b) := (hg3.block g hg2 (fun e => own_not (unhide O2) e.symm)).trans (unhide HR2)
      have B3 : Hd (WrK g w w3) := (unhide B2).grown (unhide O2) hg2 hg3
      have O3 := hide ho3
      have HR3 := hide R3
      have q3 := rowC R3 0 rfl
      have qf3 := rowF R3
      clear q0 qf ho3 hg3 R3
      go_wp2_with fail
      go_end0
      refine ⟨rfl, ⟨_, row_set (unhide HR3) 0 _, ?_⟩, (unhide B3).setg _ _⟩
      refine own_set ?_
      have hO3 := unhide O3
      have e1 : wdL [] s = s.data.toList := by simp [wdL]
      rw [e1, show s.data.toList.length = s.size from Array.length_toList ..]
      exact hO3
  · have hne : 1 ≤ l.length := by omega
    have hc : l.length + 1 + s.size ≤ 4000 := by have : min 1 l.length = 1 := by omega
                                                 rw [this] at hc; exact hc
    have hm : min (1 : Int) (l.length : Int) = 1 := by omega
    have r0 : w.cell? ⟨g, 0, none⟩ = some (.slice a l.length cap) := r0
    have H2 : Hd (w.ownsRow (g + 1) 5 1 (.slice a l.length cap) l.length (l.map B)) := H2
    have H1 : Hd (w.heap[g]? = some (wrO (.slice a l.length cap) n b)) := H1
    have hrow : Hd (∀ w1, w.drew.grownBy w1 (Value.slice a l.length cap).ownBlock → w1.heap[g]? = some (wrO (.slice a l.length cap) n b)) := fun w1 hg => (hg.block g hglt (fun e => by
      obtain ⟨_, h | ⟨b', c', cu, h, hb, _⟩⟩ := unhide H2
      · rw [h.1] at e; cases e
      · rw [h] at e; have e2 : b' = g := (by first | exact Option.some.inj e | exact (Option.some.inj e).symm); omega)).trans (unhide H1)
    have h9 := h0
    clear h0
    go_enter Tryz.func99, Tryz.ntmps99
    go_wp2_with fail
    go_region_law (refine step_append_str rfl (.tmp 28) (.tmp 30) 66 9 rfl (g + 1) 5 i0 Tryz.underlying66 Tryz.underlying9 (unhide HI) (unhide Z0) (unhide Z1) (unhide Z2) _ l.length _ (by simp [Act.eval, Act.put]) (own_ext (unhide H2) (Ext.drew (Ext.refl w))) ⟨#[32]⟩ (by simp [Act.eval, Act.put]; rfl) (by show l.length + 1 ≤ _; unfold maxLen; omega) (by show l.length + 1 ≤ _; omega) (by simp; omega) ?_; intro v1 w1 ho hg1; obtain ⟨a1, cap1, rfl⟩ := own_slice ho; have O1 := hide ho; have G1 := hide hg1; have hr1 := unhide hrow w1 hg1; have rg := rowF hr1; have rz := rowC hr1 0 rfl; have HR := hide hr1; clear ho hg1 hr1)
    all_goals
      refine gen_world (F := fun W => Exit.then _ _ Exit.normal _ W) ?_
      intro W hW
      have O2 : Hd (W.ownsRow (g + 1) 5 1 (.slice a1 (l.length + 1) cap1) (l.length + 1) (l.map B ++ [.int .u8 32])) := by rw [hW]; exact own_set (unhide O1)
      have R2 : W.heap[g]? = some (wrO (.slice a1 (l.length + 1) cap1) n b) := by rw [hW]; exact row_set (unhide HR) 0 _
      have B2 : Hd (WrK g w W) := by rw [hW]; exact ((WrK.drew (WrK.refl g w)).grown (own_ext (unhide H2) (Ext.drew (Ext.refl w))) hglt (unhide G1)).setg _ _
      have hg2 : g < W.heap.size := (Array.getElem?_eq_some_iff.1 R2).1
      have q0 := rowC R2 0 rfl
      have qf := rowF R2
      have HR2 := hide R2
      clear hW rg rz r0 rf R2
      go_wp2_with (at_builtin; refine Lib.wpList_append_own_string _ rfl _ _ 66 9 rfl (g + 1) 5 i0 Tryz.underlying66 Tryz.underlying9 (unhide HI) (unhide Z0) (unhide Z1) (unhide Z2) _ (l.length + 1) _ rfl (unhide O2) _ rfl ?c1 ?c2 ?c3 ?_)
      case c1 => unfold maxLen; omega
      case c2 => omega
      case c3 => omega
      intro v3 w3 ho3 hg3 _
      obtain ⟨a3, cap3, rfl⟩ := own_slice ho3
      have R3 : w3.heap[g]? = some (wrO (.slice a1 (l.length + 1) cap1) n b) := (hg3.block g hg2 (fun e => own_not (unhide O2) e.symm)).trans (unhide HR2)
      have B3 : Hd (WrK g w w3) := (unhide B2).grown (unhide O2) hg2 hg3
      have O3 := hide ho3
      have HR3 := hide R3
      have q3 := rowC R3 0 rfl
      have qf3 := rowF R3
      clear q0 qf ho3 hg3 R3
      go_wp2_with fail
      go_end0
      refine ⟨rfl, ⟨_, row_set (unhide HR3) 0 _, ?_⟩, (unhide B3).setg _ _⟩
      refine own_set ?_
      have hO3 := unhide O3
      have e1 : wdL l s = l ++ [32] ++ s.data.toList := by unfold wdL; rw [if_neg h9]
      have e2 : (wdL l s).length = l.length + 1 + s.size := by rw [e1, List.length_append, List.length_append, show s.data.toList.length = s.size from Array.length_toList ..]; rfl
      have e3 : (wdL l s).map B = l.map B ++ [.int .u8 32] ++ Lib.strCells s := by rw [e1, List.map_append, List.map_append]; rfl
      rw [e2, e3, List.append_assoc]
      exact hO3

end Go.Proofs.YtbcflcnkhhkogaaGreatDoor
