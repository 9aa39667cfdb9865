/- One row of values behind another: slices.Grow of nothing and slices.Concat of two rows. -/
import Derived.Test.YtbkncdjmodeabaaValCopy
import Derived.Lib.AppendZeros
set_option linter.unusedSimpArgs false
set_option maxRecDepth 10000
namespace Go.Proofs.Ytbkncdjmodeabaa
open Go.RowKit

/-- An append of nothing leaves all as it was. -/
theorem run_append_nought {P : Program} {w : World} (base : Nat) (t ty e : TypeId) (i : TypeInfo) (size : Nat) (ht : P.underlying t = some (.slice e)) (hi : P.info? e = some i)
    (v : Value) (n : Nat) (xs : List Value) (hown : w.ownsRow base e size v n xs) (a : Option Addr) (c : Nat) :
    (Builtin.append_ #[t, t] ty #[v, .slice a 0 c]).run P w = .ok v w := by
  rcases hown.2 with ⟨rfl, rfl⟩ | ⟨g, cap, cur, rfl, _, _, hnc, _⟩
  · cases a with
    | none => simp [Builtin.append_, run_underlying ht, sizeOf, typeInfo, hi, Builtin.lenOf, Builtin.firstCells]
    | some b =>
      have hf := run_firstCells_some (P := P) w i.size 0 b 0 c [] (by simp) (by simp)
      simp [Builtin.append_, run_underlying ht, sizeOf, typeInfo, hi, Builtin.lenOf, hf]
  · cases a with
    | none => simp [Builtin.append_, run_underlying ht, sizeOf, typeInfo, hi, Builtin.lenOf, Builtin.firstCells, hnc, storeCells]
    | some b =>
      have hf := run_firstCells_some (P := P) w i.size 0 b 0 c [] (by simp) (by simp)
      simp [Builtin.append_, run_underlying ht, sizeOf, typeInfo, hi, Builtin.lenOf, hf, hnc, storeCells]

theorem Row5.app {w : World} {F : Nat → Prop} : ∀ {ps qs : List PV} {xs ys : List Value}, Row5 w F ps xs → Row5 w F qs ys → Row5 w F (ps ++ qs) (xs ++ ys) := by
  intro ps
  induction ps with
  | nil => intro qs xs ys hx hy; have : xs = [] := hx; subst this; exact hy
  | cons p ps ih =>
    intro qs xs ys hx hy
    obtain ⟨a, cap, rest, e, hb, hl, hr⟩ := hx
    exact ⟨a, cap, rest ++ ys, by rw [e]; simp, hb, hl, ih hr hy⟩

/-- The cells of a row that the world holds. -/
theorem RepL.row5 {w : World} {F : Nat → Prop} : ∀ {l : List PV} {a : Option Addr}, RepL w F l a →
    ∃ xs, Row5 w F l xs ∧ xs.length = l.length * 5 ∧ (∀ u ∈ xs, u.oneCell' = true) ∧ ∀ b off, a = some ⟨b, off, none⟩ → ∀ j u, xs[j]? = some u → w.cell? ⟨b, off + j, none⟩ = some u := by
  intro l
  induction l with
  | nil => intro a _; exact ⟨[], rfl, rfl, by simp, by simp⟩
  | cons y ys ih =>
    intro a h
    rw [RepL] at h
    obtain ⟨b, off, c0, c1, c2, c3, c4, rfl, hf, hr, h0, h1, h2, h3, h4, hrest⟩ := h
    obtain ⟨xs, hx, hlen, hone, hc⟩ := ih hrest
    cases y with
    | mk k n re im s l =>
    rw [Rep] at hr
    obtain ⟨a', cap', hv, hb, hl⟩ := hr
    injection hv with hv
    simp at hv
    obtain ⟨rfl, rfl, rfl, rfl, rfl⟩ := hv
    refine ⟨[.int .i64 k, .int .i64 n, .complex .f64 re im, .string s, .slice a' l.length cap'] ++ xs, ⟨a', cap', xs, rfl, hb, hl, hx⟩, by simp [hlen]; omega, ?_, ?_⟩
    · intro u hu
      simp only [List.mem_append, List.mem_cons, List.not_mem_nil, or_false] at hu
      rcases hu with (rfl | rfl | rfl | rfl | rfl) | hu
      · rfl
      · rfl
      · rfl
      · rfl
      · rfl
      · exact hone u hu
    · intro b' off' e j u hu
      simp at e
      obtain ⟨rfl, rfl⟩ := e
      match j, hu with
      | 0, hu => simp at hu; subst hu; exact h0
      | 1, hu => simp at hu; subst hu; exact h1
      | 2, hu => simp at hu; subst hu; exact h2
      | 3, hu => simp at hu; subst hu; exact h3
      | 4, hu => simp at hu; subst hu; exact h4
      | j + 5, hu =>
        have := hc b (off + 5) rfl j u (by simpa using hu)
        rw [show off + (j + 5) = off + 5 + j by omega]
        exact this

/-- What is known of the row under way: its block is new, its values lie in what stood. -/
def Cat (w wr : World) (v : Value) (ps : List PV) : Prop :=
  Ext w wr ∧ ∃ xs, wr.ownsRow w.heap.size 25 5 v ps.length xs ∧ Row5 wr (In w) ps xs

theorem Cat.app {w wr : World} {v : Value} {ps : List PV} (h : Cat w wr v ps) (l : List PV) (a : Option Addr) (c : Nat) (hl : RepL w (In w) l a) (hb : (ps.length + l.length) * 72 ≤ 140737488355328) :
    ∃ v' w', (Builtin.append_ #[23, 23] 23 #[v, .slice a l.length c]).run Try.prog wr = .ok v' w' ∧ Cat w w' v' (ps ++ l) := by
  obtain ⟨hE, xs, ho, hx⟩ := h
  obtain ⟨i0, hi, hz0, hz1, hz2⟩ := info_parts infoV
  have hl' : RepL wr (In w) l a := RepL.to (fun b hb => ⟨hb, hE.block b hb⟩) l a hl
  cases l with
  | nil => exact ⟨v, wr, run_append_nought w.heap.size _ _ _ i0 5 Try.underlying23 hi v _ xs ho a c, hE, xs, by simpa using ho, by simpa using hx⟩
  | cons y ys =>
    obtain ⟨b, off, a', cap', ha, hEl⟩ := RepL.get hl' 0 y rfl
    subst ha
    obtain ⟨news, hn, hlen, hone, hc⟩ := hl'.row5
    obtain ⟨v', w', hrun, ho', hg, _⟩ := run_append_own (P := Try.prog) wr w.heap.size 23 23 25 i0 nilV 5 72 Try.underlying23 hi hz0 hz1 hz2 rfl (by decide) v ps.length xs ho ⟨b, off, none⟩ (y :: ys).length c news hlen
      (fun j u hu => by have := hc b off rfl j u hu; have e : (⟨b, off, none⟩ : Addr).add j = ⟨b, off + j, none⟩ := (by unfold Addr.add; split <;> simp_all); rw [e]; exact this) hone (by simp only [maxLen]; omega) hb hE.le
    have hob : ∀ k, v.ownBlock = some k → w.heap.size ≤ k := fun k e => (ho.lt k e).1
    have hE' : Ext w w' := Below.grown hE hg hE.le hob
    have hF : ∀ b, In w b → In w b ∧ w'.heap[b]? = wr.heap[b]? := fun b hb => ⟨hb, by rw [hE'.block b hb, hE.block b hb]⟩
    exact ⟨v', w', hrun, hE', xs ++ news, by simpa using ho', Row5.app (Row5.to hF hx) (Row5.to hF hn)⟩

theorem Cat.done {w wr : World} {v : Value} {ps : List PV} (h : Cat w wr v ps) : ∃ a c, v = .slice a ps.length c ∧ RepL wr (In wr) ps a ∧ ps.length ≤ c := by
  obtain ⟨hE, xs, ho, hr⟩ := h
  have hr' : Row5 wr (In wr) ps xs := Row5.to (fun b hb => ⟨Nat.lt_of_lt_of_le hb hE.le, rfl⟩) hr
  rcases ho.2 with ⟨e, h0⟩ | ⟨g, c2, cur, e, hbase, hg, hle, _⟩
  · have : ps = [] := List.eq_nil_of_length_eq_zero h0
    subst this
    exact ⟨none, 0, e, by simp [RepL], by simp⟩
  · subst e
    exact ⟨_, c2, rfl, Row5.repL (g := g) (Array.getElem?_eq_some_iff.1 hg).1 hr' (cells_own ho), hle⟩

theorem grow_any (n : Nat) (w : World) (hn : n * 72 ≤ 140737488355328) :
    Calls Try.prog 68 #[.slice none 0 0, .int .i64 n] w fun e w' => ∃ v, e = .returned v ∧ Cat w w' v [] := by
  by_cases h0 : n = 0
  · subst h0
    go_enter Try.func68, Try.ntmps68
    go_wp2_with fail
    go_ret
    exact ⟨_, rfl, Ext.refl _, [], World.ownsRow_nil _ _ _ _, rfl⟩
  · obtain ⟨i0, hi, hz0, hz1, hz2⟩ := info_parts infoV
    have hrun := Lib.run_append_nil_zeros (P := Try.prog) w 23 3 23 25 i0 nilV .i64 .i64 Try.underlying23 Try.underlying3 hi hz0 n (by omega) (by rw [hz1]; decide) (by omega) (by rw [hz2]; omega)
    have hcap := grownCap_ge w n 0 25
    have hmax : grownCap w n 0 25 ≤ maxLen := grownCap_le_maxLen w n 0 25 (by simp only [maxLen]; omega)
    have hC : Cat w (w.drew.alloc (.cells (Builtin.zeroCells nilV.cells n ++ Builtin.zeroCells nilV.cells (grownCap w n 0 25 - n)) 25)) (.slice (some ⟨w.heap.size, 0, none⟩) 0 (grownCap w n 0 25)) [] := by
      refine ⟨(Ext.drew (Ext.refl w)).trans (Ext.alloc _ _), [], ⟨rfl, .inr ⟨w.heap.size, _, _, rfl, Nat.le_refl _, heap_alloc_new w.drew _, Nat.zero_le _, hmax, ?_, by simp⟩⟩, rfl⟩
      simp only [Array.size_append, size_zeroCells]
      show n * 5 + (grownCap w n 0 25 - n) * 5 = _
      omega
    have C := hide hC
    have RUN := hide hrun
    clear hC hrun hi hz0 hz1 hz2 hmax
    generalize grownCap w n 0 25 = gc at C RUN hcap
    generalize w.drew.alloc (.cells (Builtin.zeroCells nilV.cells n ++ Builtin.zeroCells nilV.cells (gc - n)) 25) = wg at C RUN
    go_enter Try.func68, Try.ntmps68
    go_wp2_with (at_builtin; refine Lib.wpList_append_run _ rfl _ _ _ _ rfl _ _ rfl rfl _ _ (unhide RUN) ?_)
    go_ret
    exact ⟨_, rfl, unhide C⟩

/-- The first j of two rows, one behind the other. -/
def catPart (l1 l2 : List PV) (j : Nat) : List PV := if j = 0 then [] else if j = 1 then l1 else l1 ++ l2

theorem concat_any (l1 l2 : List PV) (a1 a2 : Option Addr) (c1 c2 g c : Nat) (w : World) (h1 : w.cell? ⟨g, 0, none⟩ = some (.slice a1 l1.length c1)) (h2 : w.cell? ⟨g, 1, none⟩ = some (.slice a2 l2.length c2))
    (r1 : RepL w (In w) l1 a1) (r2 : RepL w (In w) l2 a2) (hb : (l1.length + l2.length) * 72 ≤ 140737488355328) :
    Calls Try.prog 44 #[.slice (some ⟨g, 0, none⟩) 2 c] w fun e w' => ∃ a n cap, e = .returned (.slice a n cap) ∧ n = (l1 ++ l2).length ∧ RepL w' (In w') (l1 ++ l2) a ∧ n ≤ cap ∧ Ext w w' := by
  have R1 := hide r1
  have R2 := hide r2
  have C1 := hide h1
  have C2 := hide h2
  clear r1 r2
  go_enter Try.func44, Try.ntmps44
  go_wp2_with fail
  go_loopw [3, 11] (fun z i wr => ∃ j : Nat, i = .int .i64 j ∧ j ≤ 2 ∧ z = .int .i64 (if j = 0 then 0 else if j = 1 then l1.length else l1.length + l2.length : Nat) ∧ w = wr) (fun _ i _ => 2 - (intOf i).toNat)
  case atStart => exact ⟨0, rfl, by omega, rfl, rfl⟩
  case round =>
    obtain ⟨j, rfl, hj, rfl, rfl⟩ := hrel
    rcases (show j = 0 ∨ j = 1 ∨ j = 2 by omega) with rfl | rfl | rfl
    · go_wp2_with fail
      go_roundw
      case rel => exact ⟨1, by go_num, by omega, by simp, by trivial⟩
      case measure => simp [intOf]
    · go_wp2_with fail
      go_roundw
      case rel => exact ⟨2, by go_num, by omega, by simp, by trivial⟩
      case measure => simp [intOf]
    · have GR := hide (grow_any (l1.length + l2.length) w (by omega))
      have hsum : ((if (2 : Nat) = 0 then 0 else if (2 : Nat) = 1 then l1.length else l1.length + l2.length : Nat) : Int) = ((l1.length + l2.length : Nat) : Int) := by simp
      rw [hsum]
      clear hsum
      generalize l1.length + l2.length = tot at GR ⊢
      go_wp2_with (go_at_call 68; refine Calls.mono (unhide GR) ?_; rintro e w1 ⟨v1, rfl, hC1⟩; have K1 := hide hC1; clear hC1)
      go_loopw [6, 27] (fun z i wr => ∃ j : Nat, i = .int .i64 j ∧ j ≤ 2 ∧ Hd (Cat w wr z (catPart l1 l2 j))) (fun _ i _ => 2 - (intOf i).toNat)
      case atStart => exact ⟨0, rfl, by omega, unhide K1⟩
      case round =>
        obtain ⟨j, rfl, hj, hK⟩ := hrel
        rcases (show j = 0 ∨ j = 1 ∨ j = 2 by omega) with rfl | rfl | rfl
        · have h1' := (unhide hK).1.cell (unhide C1)
          obtain ⟨v', w', hrun, hcat⟩ := (unhide hK).app l1 a1 c1 (unhide R1) (by simp [catPart]; omega)
          have RUN := hide hrun
          have N := hide hcat
          clear hrun hcat
          go_wp2_with (at_builtin; refine Lib.wpList_append_run _ rfl _ _ _ _ rfl _ _ rfl rfl _ _ (unhide RUN) ?_)
          go_roundw
          case rel => exact ⟨1, by go_num, by omega, unhide N⟩
          case measure => simp [intOf]
        · have h2' := (unhide hK).1.cell (unhide C2)
          obtain ⟨v', w', hrun, hcat⟩ := (unhide hK).app l2 a2 c2 (unhide R2) (by simpa [catPart] using hb)
          have RUN := hide hrun
          have N := hide hcat
          clear hrun hcat
          go_wp2_with (at_builtin; refine Lib.wpList_append_run _ rfl _ _ _ _ rfl _ _ rfl rfl _ _ (unhide RUN) ?_)
          go_roundw
          case rel => exact ⟨2, by go_num, by omega, unhide N⟩
          case measure => simp [intOf]
        · go_wp2_with fail
          go_ret
          obtain ⟨a, cap, hv, hl, hle⟩ := (unhide hK).done
          subst hv
          exact ⟨a, _, cap, rfl, rfl, hl, hle, (unhide hK).1⟩

end Go.Proofs.Ytbkncdjmodeabaa
