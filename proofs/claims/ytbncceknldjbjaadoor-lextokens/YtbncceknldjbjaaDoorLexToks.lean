/- All words of a text. -/
import Derived.Test.YtbncceknldjbjaaDoorLexAll
set_option linter.unusedSimpArgs false
set_option linter.unusedVariables false
set_option maxRecDepth 10000
namespace Go.Proofs.YtbncceknldjbjaaDoor
open Go.RowKit

theorem add0 (g j : Nat) : (⟨g, 0, none⟩ : Addr).add j = ⟨g, j, none⟩ := by unfold Addr.add; split <;> simp_all
theorem cells_new (w : World) (cs : Array Value) (t : TypeId) : ∀ j u, cs.toList[j]? = some u → (w.alloc (.cells cs t)).cell? ((⟨w.heap.size, 0, none⟩ : Addr).add j) = some u := by
  intro j u hu
  rw [add0]
  exact cell_box w cs t j (by simpa using hu)
theorem size_alloc (w : World) (o : Obj) : (w.alloc o).heap.size = w.heap.size + 1 := Array.size_push ..
theorem cells_new2 (w : World) (o : Obj) (cs : Array Value) (t : TypeId) : ∀ j u, cs.toList[j]? = some u → ((w.alloc o).alloc (.cells cs t)).cell? ((⟨w.heap.size + 1, 0, none⟩ : Addr).add j) = some u := by
  have := cells_new (w.alloc o) cs t
  rw [size_alloc] at this
  exact this
theorem ext_grown {a b : World} {r : Option Nat} (h : Ext a b) : a.grownBy b r := ⟨h.os, h.tape, h.output, h.size, fun k hk _ => h.block k hk⟩
theorem own_ext {a b : World} {base : Nat} {e : TypeId} {size : Nat} {v : Value} {n : Nat} {xs : List Value} (h : a.ownsRow base e size v n xs) (k : Ext a b) : b.ownsRow base e size v n xs :=
  h.kept (ext_grown (r := none) k) (by cases v.ownBlock with | none => exact Or.inl rfl | some x => exact Or.inr (by simp))
theorem infoTok : (Tryd.prog.info? 31).map (fun i => (i.zero, i.size, i.bytes)) = some (some (tokV 0 ⟨#[]⟩ 0 0), 4, 40) := by kernel_rfl

/-- What holds at the label: the words so far, in a row of the call's own. -/
structure LI (s : ByteArray) (W wr : World) (k f : Nat) (acc : List Tk) (v : Value) : Prop where
  eq : lexF (s.size + 1) s 0 = (acc ++ (lexF f s k).1, (lexF f s k).2)
  fuel : s.size - k < f
  len : acc.length ≤ k
  own : wr.ownsRow W.heap.size 31 4 v acc.length (acc.flatMap tkC)
  ext : Ext W wr

theorem LI.start (s : ByteArray) (W : World) : LI s W W 0 (s.size + 1) [] (.slice none 0 0) :=
  ⟨by simp, by omega, Nat.le_refl _, World.ownsRow_nil W _ _ _, Ext.refl _⟩

theorem LI.done {s : ByteArray} {W wr : World} {k f : Nat} {acc : List Tk} {v : Value} (h : LI s W wr k f acc v) (hb : s.size ≤ k + skp false ((L s).drop k)) : lexF (s.size + 1) s 0 = (acc, none) := by
  have hf := h.fuel
  obtain ⟨g, rfl⟩ : ∃ g, f = g + 1 := ⟨f - 1, by omega⟩
  rw [h.eq, lexF, if_pos hb]
  simp

theorem LI.bad {s : ByteArray} {W wr : World} {k f : Nat} {acc : List Tk} {v : Value} (h : LI s W wr k f acc v) (hb : k + skp false ((L s).drop k) < s.size) (ht : tokT s (k + skp false ((L s).drop k)) = none) : lexF (s.size + 1) s 0 = (acc, some (k + skp false ((L s).drop k))) := by
  have hf := h.fuel
  obtain ⟨g, rfl⟩ : ∃ g, f = g + 1 := ⟨f - 1, by omega⟩
  rw [h.eq, lexF, if_neg (by omega), ht]
  simp

theorem LI.next {s : ByteArray} {W wr w1 w2 : World} {k f : Nat} {acc : List Tk} {v v' : Value} {kd : Int} {t : ByteArray} {n : Int} {m : Nat} (h : LI s W wr k f acc v) (hb : k + skp false ((L s).drop k) < s.size) (ht : tokT s (k + skp false ((L s).drop k)) = some (kd, t, n, m))
    (hx : Ext wr w1) (hown' : w2.ownsRow W.heap.size 31 4 v' (acc.length + 1) (acc.flatMap tkC ++ [.int .i64 kd, .string t, .int .i64 n, .int .i64 ((k + skp false ((L s).drop k) : Nat) : Int)])) (hgrow : w1.grownBy w2 v.ownBlock) :
    LI s W w2 m (f - 1) (acc ++ [⟨kd, t, n, k + skp false ((L s).drop k)⟩]) v' := by
  have hf := h.fuel
  have hm := tok_lt s _ _ _ _ _ ht
  refine ⟨?_, by omega, ?_, ?_, ?_⟩
  · obtain ⟨g, rfl⟩ : ∃ g, f = g + 1 := ⟨f - 1, by omega⟩
    rw [h.eq, lexF, if_neg (by omega), ht]
    simp
  · rw [List.length_append]; have := h.len; simp; omega
  · rw [List.length_append, List.flatMap_append]; exact hown'
  · refine Below.grown (h.ext.trans hx) hgrow (h.ext.trans hx).le ?_
    intro j hj
    obtain ⟨_, h | ⟨g, cap, cur, h, hg, _⟩⟩ := h.own
    · rw [h.1] at hj; cases hj
    · rw [h] at hj; cases hj; exact hg

/-- What Tokens answers, in a row of the call's own. -/
def ToksIn (s : ByteArray) (w : World) (e : Ending) (w' : World) : Prop :=
  (4000 < s.size ∧ e = .returned (.tuple #[.slice none 0 0, .int .i64 0, .int .i64 2]) ∧ Ext w w') ∨
  (s.size ≤ 4000 ∧ ∃ b, (lexF (s.size + 1) s 0).2 = some b ∧ e = .returned (.tuple #[.slice none 0 0, .int .i64 (b : Nat), .int .i64 10]) ∧ Ext w w') ∨
  (s.size ≤ 4000 ∧ (lexF (s.size + 1) s 0).2 = none ∧ ∃ v, e = .returned (.tuple #[v, .int .i64 0, .int .i64 0]) ∧ w'.ownsRow w.heap.size 31 4 v (lexF (s.size + 1) s 0).1.length ((lexF (s.size + 1) s 0).1.flatMap tkC) ∧ Ext w w')

set_option maxHeartbeats 4000000 in
theorem tokens_any (s : ByteArray) (w : World) (he : Er w) (hmax : s.size ≤ 140737488355328) :
    Calls Tryd.prog 8 #[.string s] w (ToksIn s w) := by
  by_cases hs : 4000 < s.size
  · go_enter Tryd.func8, Tryd.ntmps8
    go_wp2
    go_step3
    go_wp2
    try rw [Exit.noGoto_ret]
    go_ret3
    exact Or.inl ⟨hs, rfl, Ext.refl _⟩
  · have hs : s.size ≤ 4000 := by omega
    clear hmax
    obtain ⟨i0, hi, hz0, hz1, hz2⟩ := info_parts infoTok
    have HI := hide hi
    have Z0 := hide hz0
    have Z1 := hide hz1
    have Z2 := hide hz2
    have HE := hide he
    clear hi hz0 hz1 hz2 he
    obtain ⟨PQ, hPQ⟩ : ∃ PQ : Ending → World → Prop, PQ = ToksIn s w := ⟨_, rfl⟩
    rw [← hPQ]
    have HPQ := hide hPQ
    clear hPQ
    go_enter Tryd.func8, Tryd.ntmps8
    go_wp2
    refine wp_scope_loop 0 (fun a' wr => ∃ (k : Nat) (i : Int) (f : Nat) (acc : List Tk) (v : Value) (u5 u6 u7 u8 u9 u10 u11 u12 u13 u14 u15 u16 u17 u18 u19 u20 u21 u22 u23 u24 u25 u26 u27 u28 u29 u30 u31 u32 u33 : Value), a' = { tmps := #[.string s, undef, v, .int .i64 i, .int .i64 0, u5, u6, u7, u8, u9, u10, u11, u12, u13, u14, u15, u16, u17, u18, u19, u20, u21, u22, u23, u24, u25, u26, u27, u28, u29, u30, u31, u32, u33], defers := [] } ∧ i = k ∧ k ≤ s.size ∧ Hd (LI s w wr k f acc v)) (fun a' _ => s.size - (intOf (a'.tmps.getD 3 undef)).toNat) rfl ?_ ?_
    · rintro a' wr ⟨k, i, f, acc, v, u5, u6, u7, u8, u9, u10, u11, u12, u13, u14, u15, u16, u17, u18, u19, u20, u21, u22, u23, u24, u25, u26, u27, u28, u29, u30, u31, u32, u33, rfl, rfl, hk, hI⟩
      have HB := hide (fun W => begin_any s k W hk (by omega))
      have hle := skp_le ((L s).drop k) false
      rw [List.length_drop, L_len] at hle
      by_cases hb : s.size ≤ k + skp false ((L s).drop k)
      · have hD := hide ((unhide hI).done hb)
        have hend : ((k : Int) + (skp false ((L s).drop k) : Nat) == (s.size : Int)) = true := by simp; omega
        clear hb
        generalize skp false ((L s).drop k) = j at hle HB hend
        go_wp2_with (go_at_call 14; refine Calls.mono (unhide HB _) ?_; rintro e w1 ⟨rfl, hw⟩; obtain rfl := hw.symm)
        simp only [Exit.jump]
        go_ret3
        rw [unhide HPQ]
        have D := unhide hD
        refine Or.inr (Or.inr ⟨hs, by rw [D], v, rfl, ?_, (unhide hI).ext⟩)
        rw [D]
        exact (unhide hI).own
      · have hend : ((k : Int) + (skp false ((L s).drop k) : Nat) == (s.size : Int)) = false := by simp; omega
        have hlt : k + skp false ((L s).drop k) < s.size := by omega
        have HT := hide (fun W (x : Ext w W) => token_any s (k + skp false ((L s).drop k)) W hlt (by omega) ((unhide HE).on x))
        clear hb
        cases hT : tokT s (k + skp false ((L s).drop k)) with
        | none =>
          have hD := hide ((unhide hI).bad hlt hT)
          rw [hT] at HT
          clear hT
          unfold Tells at HT
          generalize skp false ((L s).drop k) = j at hle HB HT hD hlt hend
          go_wp2_with (first
            | (go_at_call 14; refine Calls.mono (unhide HB _) ?_; rintro e w1 ⟨rfl, hw⟩; obtain rfl := hw.symm)
            | (go_at_call 15; refine Calls.mono (unhide HT _ (unhide hI).ext) ?_; rintro e w1 ⟨rfl, hw⟩; have X1 := hide ((unhide hI).ext.trans hw); clear hw))
          simp only [Exit.jump]
          go_ret3
          rw [unhide HPQ]
          exact Or.inr (Or.inl ⟨hs, _, by rw [unhide hD], rfl, (unhide X1).trans (Ext.alloc _ _)⟩)
        | some q =>
          obtain ⟨kd, t, n, m⟩ := q
          have hm := tok_lt s _ _ _ _ _ hT
          have HN := hide (fun v' w1 w2 => (unhide hI).next (v' := v') (w1 := w1) (w2 := w2) hlt hT)
          rw [hT] at HT
          clear hT
          unfold Tells at HT
          generalize skp false ((L s).drop k) = j at hle HB HT HN hm hlt hend
          go_wp2_with (first
            | (go_at_call 14; refine Calls.mono (unhide HB _) ?_; rintro e w1 ⟨rfl, hw⟩; obtain rfl := hw.symm)
            | (go_at_call 15; refine Calls.mono (unhide HT _ (unhide hI).ext) ?_; rintro e w1 ⟨rfl, hw⟩; have X1 := hide hw; clear hw)
            | (at_builtin; refine wpList_append_own _ rfl _ _ 22 rfl w.heap.size 31 i0 (tokV 0 ⟨#[]⟩ 0 0) 4 40 Tryd.underlying22 (unhide HI) (unhide Z0) (unhide Z1) (unhide Z2) rfl (by decide) _ _ _ rfl (((own_ext (unhide hI).own (unhide X1)).alloc _).alloc _) ⟨w1.heap.size + 1, 0, none⟩ 1 1 [.int .i64 kd, .string t, .int .i64 n, .int .i64 ((k : Int) + (j : Int))] rfl rfl (cells_new2 _ _ _ _) ?c2 ?c3 ?c4 ?c5 ?_))
          case c2 => intro u hu; simp at hu; rcases hu with rfl | rfl | rfl | rfl <;> rfl
          case c3 => have := (unhide hI).len; unfold maxLen; omega
          case c4 => have := (unhide hI).len; omega
          case c5 => have := ((unhide hI).ext.trans (unhide X1)).le; simp; omega
          intro v' w2 hown' hgrow _
          have R := hide (unhide HN v' _ w2 (((unhide X1).trans (Ext.alloc _ _)).trans (Ext.alloc _ _)) hown' hgrow)
          clear hown' hgrow HN
          go_wp2
          go_step3
          refine ⟨rfl, ⟨m, _, _, _, _, _, _, _, _, _, _, _, _, _, _, _, _, _, _, _, _, _, _, _, _, _, _, _, _, _, _, _, _, _, rfl, rfl, by omega, R⟩, ?_⟩
          simp [intOf]
          omega
    · intro H
      have HH := hide H
      clear H
      have hst := hide (LI.start s w)
      go_wp2
      refine wp_label ?_
      rename_i hK
      exact hK _ _ (unhide HH _ _ ⟨0, _, _, _, _, _, _, _, _, _, _, _, _, _, _, _, _, _, _, _, _, _, _, _, _, _, _, _, _, _, _, _, _, _, rfl, by omega, by omega, hst⟩)

end Go.Proofs.YtbncceknldjbjaaDoor
