/- The writer of parse: what it holds; fail, told, enter. · The writer of parse: one word. · The writer of parse: some words, one by one. -/
import Derived.Test.YtbcflcnkhhkogaaGreatDoorZb15
import Derived.Lib.AppendStr
set_option linter.unusedSimpArgs false
set_option linter.unusedVariables false
set_option maxRecDepth 10000

namespace Go.Proofs.YtbcflcnkhhkogaaGreatDoor
open Go.RowKit

abbrev wrO (v : Value) (n : Int) (b : Bool) : Obj := .cells #[v, .int .i64 n, .bool b] 68 (0, 0)
/-- The block g holds a writer with the text l, of its own, behind g; n nodes gone into; b: there can be no text. -/
structure Wr (w : World) (g : Nat) (l : List UInt8) (n : Int) (b : Bool) : Prop where
  ex : ∃ v, w.heap[g]? = some (wrO v n b) ∧ w.ownsRow (g + 1) 5 1 v l.length (l.map B)

theorem Wr.lt {w : World} {g : Nat} {l : List UInt8} {n : Int} {b : Bool} (h : Wr w g l n b) : g < w.heap.size := by
  obtain ⟨v, h1, _⟩ := h.ex
  exact (Array.getElem?_eq_some_iff.1 h1).1
theorem Wr.ext {w w' : World} {g : Nat} {l : List UInt8} {n : Int} {b : Bool} (h : Wr w g l n b) (k : Ext w w') : Wr w' g l n b := by
  obtain ⟨v, h1, h2⟩ := h.ex
  exact ⟨v, k.row h1, own_ext h2 k⟩
theorem own_set {w : World} {g i : Nat} {v x : Value} {n : Nat} {xs : List Value} (h : w.ownsRow (g + 1) 5 1 v n xs) : (w.setCell ⟨g, i, none⟩ x).ownsRow (g + 1) 5 1 v n xs := by
  obtain ⟨h1, h2 | ⟨b, cap, cur, h3, h4, h5, h6⟩⟩ := h
  · exact ⟨h1, Or.inl h2⟩
  · exact ⟨h1, Or.inr ⟨b, cap, cur, h3, h4, row_other h5 (by omega) _ _, h6⟩⟩

/-- No row of bytes. -/
def NotB (o : Option Obj) : Prop := ∀ cs f, o ≠ some (.cells cs 5 f)
/-- Of what stood only the writer's block g and rows of bytes behind it may have turned. -/
structure WrK (g : Nat) (w w' : World) : Prop where
  os : w'.os = w.os
  tape : w'.tape = w.tape
  output : w'.output = w.output
  size : w.heap.size ≤ w'.heap.size
  low : ∀ k, k < g → w'.heap[k]? = w.heap[k]?
  keep : ∀ k, k < w.heap.size → k ≠ g → NotB (w.heap[k]?) → w'.heap[k]? = w.heap[k]?
theorem WrK.refl (g : Nat) (w : World) : WrK g w w := ⟨rfl, rfl, rfl, Nat.le_refl _, fun _ _ => rfl, fun _ _ _ _ => rfl⟩
theorem WrK.trans {g : Nat} {a b c : World} (h : WrK g a b) (k : WrK g b c) : WrK g a c :=
  ⟨k.os.trans h.os, k.tape.trans h.tape, k.output.trans h.output, Nat.le_trans h.size k.size, fun i hi => (k.low i hi).trans (h.low i hi), fun i h1 h2 h3 => by
    have e := h.keep i h1 h2 h3
    exact (k.keep i (Nat.lt_of_lt_of_le h1 h.size) h2 (by rw [e]; exact h3)).trans e⟩
theorem WrK.ext {g : Nat} {a b : World} (h : Ext a b) (hg : g < a.heap.size) : WrK g a b := ⟨h.os, h.tape, h.output, h.size, fun k hk => h.block k (by omega), fun k hk _ _ => h.block k hk⟩
theorem WrK.setg {g : Nat} {a b : World} (h : WrK g a b) (i : Nat) (v : Value) : WrK g a (b.setCell ⟨g, i, none⟩ v) :=
  ⟨h.os, h.tape, h.output, by simp [World.setCell]; exact h.size, fun k hk => (Below.heap_setCell _ _ _ _ (by simp only; omega)).trans (h.low k hk), fun k h1 h2 h3 => (Below.heap_setCell _ _ _ _ h2).trans (h.keep k h1 h2 h3)⟩
theorem WrK.below {g : Nat} {a b : World} (h : WrK g a b) : Below g a b := ⟨h.os, h.tape, h.output, h.size, h.low⟩
theorem WrK.drew {g : Nat} {a b : World} (h : WrK g a b) : WrK g a b.drew := ⟨h.os, h.tape, h.output, h.size, h.low, h.keep⟩
theorem WrK.grown {g k : Nat} {w W w1 : World} {t : Value} {xs : List Value} (hb : WrK g w W) (ho : W.ownsRow (g + 1) 5 1 t k xs) (hgl : g < W.heap.size) (hgrow : W.grownBy w1 t.ownBlock) : WrK g w w1 := by
  refine hb.trans ⟨hgrow.os, hgrow.tape, hgrow.output, hgrow.size, fun j hj => hgrow.block j (by omega) (fun e => ?_), fun j h1 h2 h3 => hgrow.block j h1 (fun e => ?_)⟩
  · have := (ho.lt j e.symm).1
    omega
  · obtain ⟨_, h | ⟨b, cap, cur, h, _, hrow, _⟩⟩ := ho
    · rw [h.1] at e; cases e
    · rw [h] at e
      have hjb : j = b := Option.some.inj e
      subst hjb
      exact h3 _ _ hrow

set_option maxHeartbeats 1000000 in
theorem wfail_any (g : Nat) (l : List UInt8) (n : Int) (b : Bool) (w : World) (h : Wr w g l n b) :
    Calls Tryz.prog 69 #[.pointer (some ⟨g, 0, none⟩)] w fun e w' => e = .returned (.tuple #[]) ∧ Wr w' g l n true ∧ WrK g w w' := by
  obtain ⟨v, h1, h2⟩ := h.ex
  have r2 := rowC h1 2 rfl
  have rf := rowF h1
  have H1 := hide h1
  have H2 := hide h2
  clear h h1 h2
  go_enter Tryz.func69, Tryz.ntmps69
  go_wp2_with fail
  go_end0
  exact ⟨rfl, ⟨v, row_set (unhide H1) 2 _, own_set (unhide H2)⟩, (WrK.refl g w).setg _ _⟩

set_option maxHeartbeats 1000000 in
theorem told_any (g : Nat) (l : List UInt8) (n : Int) (b : Bool) (w : World) (h : Wr w g l n b) :
    Calls Tryz.prog 32 #[.pointer (some ⟨g, 0, none⟩)] w fun e w' => e = .returned (if b then .tuple #[.string ⟨#[]⟩, .bool false] else .tuple #[.string ⟨l.toArray⟩, .bool true]) ∧ w' = w := by
  obtain ⟨v, h1, h2⟩ := h.ex
  have r0 := rowC h1 0 rfl
  have r2 := rowC h1 2 rfl
  have hcv := run_text_of_row h2
  clear h h1 h2
  cases b
  · go_enter Tryz.func32, Tryz.ntmps32
    go_wp2_with fail
    exact bodyPost_ret (v := .tuple #[.string ⟨l.toArray⟩, .bool true]) (by simp [results, Tryz.results32]) rfl ⟨rfl, rfl⟩
  · go_enter Tryz.func32, Tryz.ntmps32
    go_wp2_with fail
    exact bodyPost_ret (v := .tuple #[.string ⟨#[]⟩, .bool false]) (by simp [results, Tryz.results32]) rfl ⟨rfl, rfl⟩

/-- One more node is gone into: 2000 of them at most. -/
def entN (n : Int) (b : Bool) : Bool := b || decide (2000 < n + 1)
set_option maxHeartbeats 1000000 in
theorem wenter_any (g : Nat) (l : List UInt8) (n : Int) (b : Bool) (w : World) (h : Wr w g l n b) (hn : 0 ≤ n) (hn2 : n ≤ 100000) :
    Calls Tryz.prog 63 #[.pointer (some ⟨g, 0, none⟩)] w fun e w' => e = .returned (.bool (!(entN n b))) ∧ Wr w' g l (n + 1) (entN n b) ∧ WrK g w w' := by
  obtain ⟨v, h1, h2⟩ := h.ex
  have r1 := rowC h1 1 rfl
  have r2 := rowC h1 2 rfl
  have rf := rowF h1
  have S1 : Hd (Wr (w.setCell ⟨g, 1, none⟩ (.int .i64 (n + 1))) g l (n + 1) b) := ⟨v, row_set h1 1 _, own_set h2⟩
  have HF := hide (wfail_any g l (n + 1) b _ (unhide S1))
  have hB : Hd (WrK g w (w.setCell ⟨g, 1, none⟩ (.int .i64 (n + 1)))) := (WrK.refl g w).setg _ _
  clear h h1 h2
  by_cases hc : 2000 < n + 1
  · have hE : entN n b = true := by unfold entN; simp [hc]
    rw [hE]
    go_enter Tryz.func63, Tryz.ntmps63
    go_wp2_with (go_at_call 69; refine Calls.mono (unhide HF) ?_; rintro e w2 ⟨rfl, hs, hw⟩; have c2 : w2.cell? ⟨g, 2, none⟩ = some (.bool true) := (by obtain ⟨T, h1, _⟩ := hs.ex; exact rowC h1 2 rfl); have S2 := hide hs; have B2 := hide ((unhide hB).trans hw); clear hs hw)
    go_ret
    exact ⟨rfl, unhide S2, unhide B2⟩
  · have hE : entN n b = b := by unfold entN; simp [hc]
    rw [hE]
    go_enter Tryz.func63, Tryz.ntmps63
    go_wp2_with fail
    go_ret
    exact ⟨rfl, unhide S1, unhide hB⟩

end Go.Proofs.YtbcflcnkhhkogaaGreatDoor

namespace Go.Proofs.YtbcflcnkhhkogaaGreatDoor
open Go.RowKit

/-- How long the text gets by a word. -/
def wdN (l : List UInt8) (s : ByteArray) : Nat := l.length + min 1 l.length + s.size
def wdL (l : List UInt8) (s : ByteArray) : List UInt8 := l ++ (if l.length = 0 then [] else [32]) ++ s.data.toList
theorem infoB : (Tryz.prog.info? 5).map (fun i => (i.zero, i.size, i.bytes)) = some (some (.int .u8 0), 1, 1) := by kernel_rfl

set_option maxHeartbeats 1000000 in
theorem word_long (g : Nat) (l : List UInt8) (n : Int) (b : Bool) (s : ByteArray) (w : World) (h : Wr w g l n b) (hl : l.length ≤ 4000) (hs : s.size ≤ 100000000) (hc : 4000 < wdN l s) :
    Calls Tryz.prog 99 #[.pointer (some ⟨g, 0, none⟩), .string s] w fun e w' => e = .returned (.tuple #[]) ∧ Wr w' g l n true ∧ WrK g w w' := by
  have HF := hide (wfail_any g l n b w h)
  obtain ⟨v, h1, h2⟩ := h.ex
  obtain ⟨a, cap, rfl⟩ : ∃ a cap, v = .slice a l.length cap := by
    obtain ⟨_, ⟨rfl, h0⟩ | ⟨b, cap, cur, rfl, _⟩⟩ := h2
    · exact ⟨none, 0, by rw [h0]⟩
    · exact ⟨_, _, rfl⟩
  have r0 := rowC h1 0 rfl
  unfold wdN at hc
  clear h h1 h2
  by_cases h0 : l.length = 0
  · rw [h0] at hc r0
    have hc : 4000 < s.size := by simpa using hc
    go_enter Tryz.func99, Tryz.ntmps99
    go_wp2_with (go_at_call 69; refine Calls.mono (unhide HF) ?_; rintro e w2 ⟨rfl, hs, hw⟩; have S2 := hide hs; have B2 := hide hw; clear hs hw)
    exact bodyPost_ret (v := .tuple #[]) (by simp [results, Tryz.results99]) rfl ⟨rfl, unhide S2, unhide B2⟩
  · obtain ⟨m, hm⟩ : ∃ m, l.length = m + 1 := ⟨l.length - 1, by omega⟩
    rw [hm] at hc r0
    have hc : 4000 < m + 1 + 1 + s.size := by have : min 1 (m + 1) = 1 := by omega
                                              rw [this] at hc; exact hc
    go_enter Tryz.func99, Tryz.ntmps99
    go_wp2_with (go_at_call 69; refine Calls.mono (unhide HF) ?_; rintro e w2 ⟨rfl, hs, hw⟩; have S2 := hide hs; have B2 := hide hw; clear hs hw)
    exact bodyPost_ret (v := .tuple #[]) (by simp [results, Tryz.results99]) rfl ⟨rfl, unhide S2, unhide B2⟩

theorem own_slice {w : World} {base n size : Nat} {e : TypeId} {v : Value} {xs : List Value} (h : w.ownsRow base e size v n xs) : ∃ a cap, v = .slice a n cap := by
  obtain ⟨_, ⟨rfl, h0⟩ | ⟨b, cap, cur, rfl, _⟩⟩ := h
  · exact ⟨none, 0, by rw [h0]⟩
  · exact ⟨_, _, rfl⟩

theorem own_not {g k : Nat} {w : World} {t : Value} {xs : List Value} (ho : w.ownsRow (g + 1) 5 1 t k xs) (e : t.ownBlock = some g) : False := by
  obtain ⟨_, h | ⟨b, cap, cur, h, hg, _⟩⟩ := ho
  · rw [h.1] at e; cases e
  · rw [h] at e
    have : b = g := Option.some.inj e
    omega

section
variable {P : Program} {w : World}
/-- An append of a text onto a row of bytes of the call's own, as one step of a region that draws its order. -/
theorem step_append_str {ops : Array Oper} {o : Oper} {a : Act} {K : Act → World → Prop} {Q : Exit → Act → World → Prop} {E : Prop}
    (hg : o.guard = none) (sl x : Operand) (t u : TypeId) (hop : o.op = Op.call { callee := Callee.builtin Builtin.append, args := #[sl, x], argTypes := #[t, u] })
    (base : Nat) (e : TypeId) (i : TypeInfo) (ht : P.underlying t = some (.slice e)) (hu : P.underlying u = some .string) (hi : P.info? e = some i) (hz : i.zero = some (.int .u8 0))
    (hsize : i.size = 1) (hby : i.bytes = 1)
    (v : Value) (n : Nat) (xs : List Value) (hs : a.eval sl = v) (hown : w.ownsRow base e 1 v n xs) (s : ByteArray) (hx : a.eval x = .string s)
    (h63 : n + s.size ≤ maxLen) (hbytes : n + s.size ≤ 140737488355328) (hbase : base ≤ w.heap.size)
    (hK : ∀ v' w', w'.ownsRow base e 1 v' (n + s.size) (xs ++ Lib.strCells s) → w.grownBy w' v.ownBlock → K (a.put o.dst v') w') :
    if Region.wanted o (yielded ops a.tmps) = true then Oper.wp P o a w K Q else E := by
  have hw : Region.wanted o (yielded ops a.tmps) = true := by simp [Region.wanted, hg]
  rw [if_pos hw]
  obtain ⟨v', w', hr, h2, h3, _⟩ := Lib.run_append_own_string (P := P) w base t u o.type e i ht hu hi hz hsize hby v n xs hown s h63 hbytes hbase
  unfold Oper.wp
  simp [execOp, hop, resolve, invoke, builtin, hs, hx, hr, Result.andThen]
  exact hK v' w' h2 h3
end

set_option maxHeartbeats 1000000 in
theorem word_fits (g : Nat) (l : List UInt8) (n : Int) (b : Bool) (s : ByteArray) (w : World) (h : Wr w g l n b) (hc : wdN l s ≤ 4000) :
    Calls Tryz.prog 99 #[.pointer (some ⟨g, 0, none⟩), .string s] w fun e w' => e = .returned (.tuple #[]) ∧ Wr w' g (wdL l s) n b ∧ WrK g w w' := by
  have hglt := h.lt
  obtain ⟨v, h1, h2⟩ := h.ex
  obtain ⟨i0, hi, hz0, hz1, hz2⟩ := info_parts infoB
  have HI := hide hi
  have Z0 := hide hz0
  have Z1 := hide hz1
  have Z2 := hide hz2
  clear hi hz0 hz1 hz2
  obtain ⟨a, cap, rfl⟩ : ∃ a cap, v = .slice a l.length cap := by
    obtain ⟨_, ⟨rfl, h0⟩ | ⟨b, cap, cur, rfl, _⟩⟩ := h2
    · exact ⟨none, 0, by rw [h0]⟩
    · exact ⟨_, _, rfl⟩
  have r0 := rowC h1 0 rfl
  have rf := rowF h1
  have H1 := hide h1
  have H2 := hide h2
  unfold wdN at hc
  clear h h1 h2
  by_cases h0 : l.length = 0
  · obtain rfl := List.length_eq_zero_iff.1 h0
    have hc : s.size ≤ 4000 := by simpa using hc
    have hm : min (1 : Int) 0 = 0 := rfl
    have r0 : w.cell? ⟨g, 0, none⟩ = some (.slice a 0 cap) := r0
    have H2 : Hd (w.ownsRow (g + 1) 5 1 (.slice a 0 cap) 0 []) := H2
    have H1 : Hd (w.heap[g]? = some (wrO (.slice a 0 cap) n b)) := H1
    have hrow : Hd (∀ w1, w.drew.grownBy w1 (Value.slice a 0 cap).ownBlock → w1.heap[g]? = some (wrO (.slice a 0 cap) n b)) := fun w1 hg => (hg.block g hglt (fun e => by
      obtain ⟨_, h | ⟨b', c', cu, h, hb, _⟩⟩ := unhide H2
      · rw [h.1] at e; cases e
      · rw [h] at e; have e2 : b' = g := (by first | exact Option.some.inj e | exact (Option.some.inj e).symm); omega)).trans (unhide H1)
    clear h0
    go_enter Tryz.func99, Tryz.ntmps99
    go_wp2_with fail
    go_region_law (refine step_append_str rfl (.tmp 28) (.tmp 30) 66 9 rfl (g + 1) 5 i0 Tryz.underlying66 Tryz.underlying9 (unhide HI) (unhide Z0) (unhide Z1) (unhide Z2) _ 0 _ (by simp [Act.eval, Act.put]) (own_ext (unhide H2) (Ext.drew (Ext.refl w))) ByteArray.empty (by simp [Act.eval, Act.put]) (by decide) (by decide) (by simp; omega) ?_; intro v1 w1 ho hg1; obtain ⟨a1, cap1, rfl⟩ := own_slice ho; have O1 := hide ho; have G1 := hide hg1; have hr1 := unhide hrow w1 hg1; have rg := rowF hr1; have rz := rowC hr1 0 rfl; have HR := hide hr1; clear ho hg1 hr1)
    all_goals
      refine gen_world (F := fun W => Exit.then _ _ Exit.normal _ W) ?_
      intro W hW
      have O2 : Hd (W.ownsRow (g + 1) 5 1 (.slice a1 0 cap1) 0 []) := by rw [hW]; exact own_set (unhide O1)
      have R2 : W.heap[g]? = some (wrO (.slice a1 0 cap1) n b) := by rw [hW]; exact row_set (unhide HR) 0 _
      have B2 : Hd (WrK g w W) := by rw [hW]; exact ((WrK.drew (WrK.refl g w)).grown (own_ext (unhide H2) (Ext.drew (Ext.refl w))) hglt (unhide G1)).setg _ _
      have hg2 : g < W.heap.size := (Array.getElem?_eq_some_iff.1 R2).1
      have q0 := rowC R2 0 rfl
      have qf := rowF R2
      have HR2 := hide R2
      clear hW rg rz r0 rf R2
      go_wp2_with (at_builtin; refine Lib.wpList_append_own_string _ rfl _ _ 66 9 rfl (g + 1) 5 i0 Tryz.underlying66 Tryz.underlying9 (unhide HI) (unhide Z0) (unhide Z1) (unhide Z2) _ 0 _ rfl (unhide O2) _ rfl ?c1 ?c2 ?c3 ?_)
      case c1 => unfold maxLen; omega
      case c2 => omega
      case c3 => omega
      intro v3 w3 ho3 hg3 _
      obtain ⟨a3, cap3, rfl⟩ := own_slice ho3
      have R3 : w3.heap[g]? = some (wrO (.slice a1 0 cap1) n b) := (hg3.block g hg2 (fun e => own_not (unhide O2) e.symm)).trans (unhide HR2)
      have B3 : Hd (WrK g w w3) := (unhide B2).grown (unhide O2) hg2 hg3
      have O3 := hide ho3
      have HR3 := hide R3
      have q3 := rowC R3 0 rfl
      have qf3 := rowF R3
      clear q0 qf ho3 hg3 R3
      go_wp2_with fail
      go_end0
      refine ⟨rfl, ⟨_, row_set (unhide HR3) 0 _, ?_⟩, (unhide B3).setg _ _⟩
      refine own_set ?_
      have hO3 := unhide O3
      have e1 : wdL [] s = s.data.toList := by simp [wdL]
      rw [e1, show s.data.toList.length = s.size from Array.length_toList ..]
      exact hO3
  · have hne : 1 ≤ l.length := by omega
    have hc : l.length + 1 + s.size ≤ 4000 := by have : min 1 l.length = 1 := by omega
                                                 rw [this] at hc; exact hc
    have hm : min (1 : Int) (l.length : Int) = 1 := by omega
    have r0 : w.cell? ⟨g, 0, none⟩ = some (.slice a l.length cap) := r0
    have H2 : Hd (w.ownsRow (g + 1) 5 1 (.slice a l.length cap) l.length (l.map B)) := H2
    have H1 : Hd (w.heap[g]? = some (wrO (.slice a l.length cap) n b)) := H1
    have hrow : Hd (∀ w1, w.drew.grownBy w1 (Value.slice a l.length cap).ownBlock → w1.heap[g]? = some (wrO (.slice a l.length cap) n b)) := fun w1 hg => (hg.block g hglt (fun e => by
      obtain ⟨_, h | ⟨b', c', cu, h, hb, _⟩⟩ := unhide H2
      · rw [h.1] at e; cases e
      · rw [h] at e; have e2 : b' = g := (by first | exact Option.some.inj e | exact (Option.some.inj e).symm); omega)).trans (unhide H1)
    have h9 := h0
    clear h0
    go_enter Tryz.func99, Tryz.ntmps99
    go_wp2_with fail
    go_region_law (refine step_append_str rfl (.tmp 28) (.tmp 30) 66 9 rfl (g + 1) 5 i0 Tryz.underlying66 Tryz.underlying9 (unhide HI) (unhide Z0) (unhide Z1) (unhide Z2) _ l.length _ (by simp [Act.eval, Act.put]) (own_ext (unhide H2) (Ext.drew (Ext.refl w))) ⟨#[32]⟩ (by simp [Act.eval, Act.put]; rfl) (by show l.length + 1 ≤ _; unfold maxLen; omega) (by show l.length + 1 ≤ _; omega) (by simp; omega) ?_; intro v1 w1 ho hg1; obtain ⟨a1, cap1, rfl⟩ := own_slice ho; have O1 := hide ho; have G1 := hide hg1; have hr1 := unhide hrow w1 hg1; have rg := rowF hr1; have rz := rowC hr1 0 rfl; have HR := hide hr1; clear ho hg1 hr1)
    all_goals
      refine gen_world (F := fun W => Exit.then _ _ Exit.normal _ W) ?_
      intro W hW
      have O2 : Hd (W.ownsRow (g + 1) 5 1 (.slice a1 (l.length + 1) cap1) (l.length + 1) (l.map B ++ [.int .u8 32])) := by rw [hW]; exact own_set (unhide O1)
      have R2 : W.heap[g]? = some (wrO (.slice a1 (l.length + 1) cap1) n b) := by rw [hW]; exact row_set (unhide HR) 0 _
      have B2 : Hd (WrK g w W) := by rw [hW]; exact ((WrK.drew (WrK.refl g w)).grown (own_ext (unhide H2) (Ext.drew (Ext.refl w))) hglt (unhide G1)).setg _ _
      have hg2 : g < W.heap.size := (Array.getElem?_eq_some_iff.1 R2).1
      have q0 := rowC R2 0 rfl
      have qf := rowF R2
      have HR2 := hide R2
      clear hW rg rz r0 rf R2
      go_wp2_with (at_builtin; refine Lib.wpList_append_own_string _ rfl _ _ 66 9 rfl (g + 1) 5 i0 Tryz.underlying66 Tryz.underlying9 (unhide HI) (unhide Z0) (unhide Z1) (unhide Z2) _ (l.length + 1) _ rfl (unhide O2) _ rfl ?c1 ?c2 ?c3 ?_)
      case c1 => unfold maxLen; omega
      case c2 => omega
      case c3 => omega
      intro v3 w3 ho3 hg3 _
      obtain ⟨a3, cap3, rfl⟩ := own_slice ho3
      have R3 : w3.heap[g]? = some (wrO (.slice a1 (l.length + 1) cap1) n b) := (hg3.block g hg2 (fun e => own_not (unhide O2) e.symm)).trans (unhide HR2)
      have B3 : Hd (WrK g w w3) := (unhide B2).grown (unhide O2) hg2 hg3
      have O3 := hide ho3
      have HR3 := hide R3
      have q3 := rowC R3 0 rfl
      have qf3 := rowF R3
      clear q0 qf ho3 hg3 R3
      go_wp2_with fail
      go_end0
      refine ⟨rfl, ⟨_, row_set (unhide HR3) 0 _, ?_⟩, (unhide B3).setg _ _⟩
      refine own_set ?_
      have hO3 := unhide O3
      have e1 : wdL l s = l ++ [32] ++ s.data.toList := by unfold wdL; rw [if_neg h9]
      have e2 : (wdL l s).length = l.length + 1 + s.size := by rw [e1, List.length_append, List.length_append, show s.data.toList.length = s.size from Array.length_toList ..]; rfl
      have e3 : (wdL l s).map B = l.map B ++ [.int .u8 32] ++ Lib.strCells s := by rw [e1, List.map_append, List.map_append]; rfl
      rw [e2, e3, List.append_assoc]
      exact hO3

end Go.Proofs.YtbcflcnkhhkogaaGreatDoor

namespace Go.Proofs.YtbcflcnkhhkogaaGreatDoor
open Go.RowKit

/-- A word laid down, or why not. -/
def wdS (p : List UInt8 × Bool) (s : ByteArray) : List UInt8 × Bool := if 4000 < wdN p.1 s then (p.1, true) else (wdL p.1 s, p.2)
theorem wdS_len {p : List UInt8 × Bool} (h : p.1.length ≤ 4000) (s : ByteArray) : (wdS p s).1.length ≤ 4000 := by
  unfold wdS
  split
  · exact h
  · rename_i hc
    unfold wdN at hc
    unfold wdL
    rw [List.length_append, List.length_append, show s.data.toList.length = s.size from Array.length_toList ..]
    split
    · simp; omega
    · simp; omega

theorem word_any (g : Nat) (p : List UInt8 × Bool) (n : Int) (s : ByteArray) (w : World) (h : Wr w g p.1 n p.2) (hl : p.1.length ≤ 4000) (hs : s.size ≤ 100000000) :
    Calls Tryz.prog 99 #[.pointer (some ⟨g, 0, none⟩), .string s] w fun e w' => e = .returned (.tuple #[]) ∧ Wr w' g (wdS p s).1 n (wdS p s).2 ∧ WrK g w w' := by
  unfold wdS
  by_cases hc : 4000 < wdN p.1 s
  · rw [if_pos hc]
    exact word_long g p.1 n p.2 s w h hl hs hc
  · rw [if_neg hc]
    exact word_fits g p.1 n p.2 s w h (by omega)

/-- Some words laid down. -/
def wdsS : List UInt8 × Bool → List ByteArray → List UInt8 × Bool
  | p, [] => p
  | p, s :: r => wdsS (wdS p s) r
theorem wdsS_len : ∀ (ss : List ByteArray) {p : List UInt8 × Bool}, p.1.length ≤ 4000 → (wdsS p ss).1.length ≤ 4000 := by
  intro ss
  induction ss with
  | nil => intro p h; exact h
  | cons s r ih => intro p h; rw [wdsS]; exact ih (wdS_len h s)
abbrev strO (ss : List ByteArray) : Obj := .cells (ss.map Value.string).toArray 9 (0, 0)
theorem strO_not {w : World} {k : Nat} {ss : List ByteArray} (h : w.heap[k]? = some (strO ss)) : NotB (w.heap[k]?) := by
  intro cs f e
  rw [h] at e
  injection e with e
  injection e with _ e _
  exact absurd e (by decide)

set_option maxHeartbeats 1000000 in
theorem words_any (g : Nat) (p : List UInt8 × Bool) (n : Int) (ss : List ByteArray) (k c : Nat) (w : World) (h : Wr w g p.1 n p.2) (hl : p.1.length ≤ 4000) (hs : ∀ s ∈ ss, s.size ≤ 100000000) (hk : w.heap[k]? = some (strO ss)) (hkg : k ≠ g) (hn : ss.length ≤ 1000) :
    Calls Tryz.prog 65 #[.pointer (some ⟨g, 0, none⟩), .slice (some ⟨k, 0, none⟩) ss.length c] w fun e w' => e = .returned (.tuple #[]) ∧ Wr w' g (wdsS p ss).1 n (wdsS p ss).2 ∧ WrK g w w' := by
  have HW := hide (fun (p : List UInt8 × Bool) (s : ByteArray) (W : World) (h : Wr W g p.1 n p.2) (hl : p.1.length ≤ 4000) (hs : s.size ≤ 100000000) => word_any g p n s W h hl hs)
  have HS := hide hs
  have HK := hide hk
  have HN := hide (strO_not hk)
  have hkl : k < w.heap.size := (Array.getElem?_eq_some_iff.1 hk).1
  have H0 := hide h
  have HL := hide hl
  clear h hl hs hk
  obtain ⟨R, hR⟩ : ∃ R, R = wdsS p ss := ⟨_, rfl⟩
  rw [← hR]
  have HR : Hd (wdsS p (ss.drop 0) = R) := hR.symm
  clear hR
  generalize hM : ss.length = m at *
  go_enter Tryz.func65, Tryz.ntmps65
  go_wp2_with fail
  go_loopw [8] (fun t wr => ∃ (j : Nat) (q : List UInt8 × Bool), t = .int .i64 j ∧ j ≤ m ∧ Hd (wdsS q (ss.drop j) = R) ∧ Hd (q.1.length ≤ 4000) ∧ Hd (Wr wr g q.1 n q.2) ∧ Hd (WrK g w wr)) (fun t _ => m - (intOf t).toNat)
  case atStart => exact ⟨0, p, rfl, by omega, HR, HL, H0, WrK.refl g w⟩
  case round =>
    clear HR HL H0
    obtain ⟨j, q, rfl, hj, hE, hQ, hW, hF⟩ := hrel
    by_cases hlt : j < m
    · obtain ⟨s, hs⟩ : ∃ s, ss[j]? = some s := ⟨_, List.getElem?_eq_getElem (by omega)⟩
      have hd : ss.drop j = s :: ss.drop (j + 1) := by
        obtain ⟨h1, h2⟩ := List.getElem?_eq_some_iff.1 hs
        rw [List.drop_eq_getElem_cons h1, h2]
      have hE2 := unhide hE
      rw [hd, wdsS] at hE2
      have HE2 := hide hE2
      have hrow := ((unhide hF).keep k hkl hkg (unhide HN)).trans (unhide HK)
      have hc : wr.cell? ⟨k, j, none⟩ = some (.string s) := rowC hrow j (by simp [hs])
      have hss := hide (unhide HS s (List.mem_of_getElem? hs))
      clear hE2 hd hs hrow
      go_wp2_with (go_at_call 99; refine Calls.mono (unhide HW q s _ (unhide hW) (unhide hQ) (unhide hss)) ?_; rintro e w2 ⟨rfl, h2, k2⟩; have W2 := hide h2; have K2 := hide ((unhide hF).trans k2); clear h2 k2)
      go_roundw
      case rel => exact ⟨j + 1, wdS q s, by go_num, by omega, HE2, wdS_len (unhide hQ) s, W2, K2⟩
      case measure => simp [intOf]; omega
    · obtain rfl : j = m := by omega
      have HQR : Hd (q = R) := by
        have := unhide hE
        rw [List.drop_eq_nil_of_le (by omega)] at this
        exact this
      go_wp2_with fail
      go_end0
      rw [← unhide HQR]
      exact ⟨rfl, unhide hW, unhide hF⟩

end Go.Proofs.YtbcflcnkhhkogaaGreatDoor
