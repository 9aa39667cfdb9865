/- A row of numbers of the call's own, from wherever in its block; slices.Insert of one number by the library's contract. -/
import Derived.Test.YtjopfpchbakggaaCoW
import Derived.Shelf.Spec.SlicesInsertGrow
import Derived.Shelf.Spec.SlicesInsert
set_option linter.unusedSimpArgs false
set_option linter.unusedVariables false
set_option maxRecDepth 10000
namespace Go.Proofs
open Go.Shelf
def Try.laysIns_ren : Go.Shelf.Ren := ⟨fun | 21 => 23 | 27 => 24 | 28 => 25 | 35 => 26 | 39 => 27 | n => n, fun | 22 => 41 | n => n, fun | n => n⟩
theorem Try.laysIns : Go.Proofs.Lays2.n21 Try.prog Try.laysIns_ren := {
  mixed := by kernel_rfl
  f21 := Try.func23.trans (congrArg some (by kernel_rfl))
  f27 := Try.func24.trans (congrArg some (by kernel_rfl))
  f28 := Try.func25.trans (congrArg some (by kernel_rfl))
  f35 := Try.func26.trans (congrArg some (by kernel_rfl))
  f39 := Try.func27.trans (congrArg some (by kernel_rfl))
  t0 := Try.underlying0
  a0 := Try.isAgg0
  z0 := Try.sizeOf0
  v0 := Try.zeroValue0
  t3 := Try.underlying3
  a3 := Try.isAgg3
  z3 := Try.sizeOf3
  v3 := Try.zeroValue3
  t4 := Try.underlying4
  a4 := Try.isAgg4
  z4 := Try.sizeOf4
  v4 := Try.zeroValue4
  t22 := Try.underlying41
  a22 := Try.isAgg41
  z22 := Try.sizeOf41
  v22 := Try.zeroValue41
  i3 := by kernel_rfl }
end Go.Proofs
namespace Go.Proofs.Ytjopfpchbakggaa
open Go.RowKit

/-- The slice v holds the numbers l; its block, if there is one, lies from lo on and is a row of numbers. -/
def Bk (w : World) (lo : Nat) (v : Value) (l : List Nat) : Prop :=
  ∃ a c, v = .slice a l.length c ∧ l.length ≤ c ∧ c ≤ maxLen ∧ ((a = none ∧ c = 0) ∨ ∃ B off ys, a = some ⟨B, off, none⟩ ∧ lo ≤ B ∧ w.heap[B]? = some (.cells ys 3 (0, 0)) ∧ off + c ≤ ys.size ∧ ∀ (j x : Nat), l[j]? = some x → ys[off + j]? = some (.int .i64 (x : Int)))
theorem Bk.nil (w : World) (lo : Nat) : Bk w lo (.slice none 0 0) [] := ⟨none, 0, rfl, Nat.le_refl _, Nat.zero_le _, Or.inl ⟨rfl, rfl⟩⟩
theorem Bk.block {w w' : World} {lo : Nat} {v : Value} {l : List Nat} (h : Bk w lo v l) (k : ∀ B, v.ownBlock = some B → w'.heap[B]? = w.heap[B]?) : Bk w' lo v l := by
  obtain ⟨a, c, rfl, h1, h2, h3⟩ := h
  refine ⟨a, c, rfl, h1, h2, ?_⟩
  rcases h3 with h3 | ⟨B, off, ys, rfl, hb, hg, r⟩
  · exact Or.inl h3
  · exact Or.inr ⟨B, off, ys, rfl, hb, (k B rfl).trans hg, r⟩
theorem Bk.lt {w : World} {lo : Nat} {v : Value} {l : List Nat} (h : Bk w lo v l) {B : Nat} (k : v.ownBlock = some B) : lo ≤ B ∧ B < w.heap.size := by
  obtain ⟨a, c, rfl, h1, h2, h3⟩ := h
  rcases h3 with ⟨rfl, _⟩ | ⟨B', off, ys, rfl, hb, hg, r⟩
  · cases k
  · injection k with k
    subst k
    exact ⟨hb, k_lt hg⟩
theorem Bk.ext {w w' : World} {lo : Nat} {v : Value} {l : List Nat} (h : Bk w lo v l) (k : Ext w w') : Bk w' lo v l := h.block fun B hB => k.block B (h.lt hB).2
theorem Bk.grown {w w' : World} {lo : Nat} {v : Value} {l : List Nat} {o : Option Nat} (h : Bk w lo v l) (k : w.grownBy w' o) (hne : v.ownBlock = none ∨ v.ownBlock ≠ o) : Bk w' lo v l := h.block fun B hB => k.block B (h.lt hB).2 (fun e => hne.elim (fun h0 => by rw [hB] at h0; cases h0) (fun h0 => h0 (hB.trans e)))
theorem Bk.set {w : World} {lo : Nat} {v : Value} {l : List Nat} (h : Bk w lo v l) {b : Nat} (hne : v.ownBlock ≠ some b) (i : Nat) (u : Value) : Bk (w.setCell ⟨b, i, none⟩ u) lo v l :=
  h.block fun B hB => k_row_other rfl (fun e => hne (by rw [hB, e])) i u

/-- A row of cells after some were written. -/
theorem setCells_row (b : Nat) (t : TypeId) : ∀ (vs : List Value) (o : Nat) (w : World) (ys : Array Value), w.heap[b]? = some (.cells ys t (0, 0)) → ∃ ys', (w.setCells b o vs).heap[b]? = some (.cells ys' t (0, 0)) ∧ ys'.size = ys.size
  | [], o, w, ys, h => ⟨ys, h, rfl⟩
  | v :: r, o, w, ys, h => by
    obtain ⟨ys', h1, h2⟩ := setCells_row b t r (o + 1) _ _ (k_row_set h o v)
    exact ⟨ys', h1, by rw [h2]; simp⟩
theorem setCells_size (b : Nat) : ∀ (vs : List Value) (o : Nat) (w : World), (w.setCells b o vs).heap.size = w.heap.size
  | [], o, w => rfl
  | v :: r, o, w => by rw [World.setCells, setCells_size b r]; simp [World.setCell]
theorem setCells_grown (b : Nat) : ∀ (vs : List Value) (o : Nat) (w : World), w.grownBy (w.setCells b o vs) (some b)
  | [], o, w => ⟨rfl, rfl, rfl, Nat.le_refl _, fun _ _ _ => rfl⟩
  | v :: r, o, w => by
    have h1 := k_grown_set w b o v
    have h2 := setCells_grown b r (o + 1) (w.setCell ⟨b, o, none⟩ v)
    exact ⟨h2.os.trans h1.os, h2.tape.trans h1.tape, h2.output.trans h1.output, Nat.le_trans h1.size h2.size, fun k hk hne => (h2.block k (Nat.lt_of_lt_of_le hk h1.size) hne).trans (h1.block k hk hne)⟩
theorem grown_trans {a b c : World} {o : Option Nat} (h1 : a.grownBy b o) (h2 : b.grownBy c o) : a.grownBy c o :=
  ⟨h2.os.trans h1.os, h2.tape.trans h1.tape, h2.output.trans h1.output, Nat.le_trans h1.size h2.size, fun k hk hne => (h2.block k (Nat.lt_of_lt_of_le hk h1.size) hne).trans (h1.block k hk hne)⟩
theorem grown_alloc (w : World) (o : Option Nat) (ob : Obj) : w.grownBy (w.alloc ob) o := ⟨rfl, rfl, rfl, by simp, fun k hk _ => (Ext.alloc w ob).block k hk⟩
theorem grown_drew {a b : World} {o : Option Nat} (h : a.grownBy b o) : a.grownBy b.drew o := ⟨h.os, h.tape, h.output, h.size, h.block⟩
theorem grown_drew0 {a b : World} {o : Option Nat} (h : a.drew.grownBy b o) : a.grownBy b o := ⟨h.os, h.tape, h.output, h.size, h.block⟩
theorem grown_ext0 {a b : World} (o : Option Nat) (h : Ext a b) : a.grownBy b o := ⟨h.os, h.tape, h.output, h.size, fun k hk _ => h.block k hk⟩
theorem grown_none {a b : World} (h : a.grownBy b none) : Ext a b := ⟨h.os, h.tape, h.output, h.size, fun k hk => h.block k hk (fun e => by cases e)⟩

def insAt (l : List Nat) (i x : Nat) : List Nat := l.take i ++ x :: l.drop i
theorem insAt_len {l : List Nat} {i x : Nat} (h : i ≤ l.length) : (insAt l i x).length = l.length + 1 := by simp [insAt]; omega
theorem insAt_at {l : List Nat} {i x j y : Nat} (h : i ≤ l.length) (e : (insAt l i x)[j]? = some y) : (j < i ∧ l[j]? = some y) ∨ (j = i ∧ y = x) ∨ (i < j ∧ l[j - 1]? = some y) := by
  unfold insAt at e
  have hl : (l.take i).length = i := by simp; omega
  by_cases h1 : j < i
  · rw [List.getElem?_append_left (by omega), List.getElem?_take_of_lt h1] at e
    exact Or.inl ⟨h1, e⟩
  · rw [List.getElem?_append_right (by omega), hl] at e
    by_cases h2 : j = i
    · subst h2
      rw [Nat.sub_self] at e
      simp at e
      exact Or.inr (Or.inl ⟨rfl, e.symm⟩)
    · rw [show j - i = j - i - 1 + 1 by omega, List.getElem?_cons_succ, List.getElem?_drop] at e
      exact Or.inr (Or.inr ⟨by omega, by rw [← e]; congr 1; omega⟩)
theorem cellOf {w : World} {g : Nat} {cs : Array Value} {t : TypeId} (h : w.heap[g]? = some (.cells cs t (0, 0))) (i : Nat) : w.cell? ⟨g, i, none⟩ = cs[i]? := cell_of_row _ _ i cs t (0, 0) h

theorem ins_w (w : World) (lo : Nat) (v : Value) (l : List Nat) (i x vb : Nat) (h : Bk w lo v l) (hi : i ≤ l.length) (hl : l.length ≤ 1000000) (hlo : lo ≤ w.heap.size) (hv : Row w vb 3 [.int .i64 (x : Int)]) (hne : v.ownBlock ≠ some vb) :
    Calls Try.prog 23 #[v, .int .i64 (i : Int), .slice (some ⟨vb, 0, none⟩) 1 1] w fun e w' => ∃ v', e = .returned v' ∧ Bk w' lo v' (insAt l i x) ∧ w.grownBy w' v.ownBlock ∧ (v'.ownBlock = v.ownBlock ∨ ∀ b, v'.ownBlock = some b → w.heap.size ≤ b) := by
  obtain ⟨a, c, rfl, hnc, hcm, hb⟩ := h
  have hvs : ∀ (j : Nat) u, [Value.int .i64 (x : Int)][j]? = some u → w.cell? ⟨vb, 0 + j, none⟩ = some u := fun j u hj => by rw [Nat.zero_add]; exact hv.cell j hj
  have h1c : ∀ u ∈ ns l, u.oneCell' = true := fun u hu => by obtain ⟨y, _, rfl⟩ := List.mem_map.1 hu; rfl
  have h63 : c ≤ 9223372036854775807 := by unfold maxLen at hcm; omega
  have hil := insAt_len (x := x) hi
  by_cases hin : i = l.length
  · subst hin
    have hins : insAt l l.length x = l ++ [x] := by unfold insAt; rw [List.take_length, List.drop_length]
    rw [hins]
    by_cases hroom : l.length + 1 ≤ c
    · rcases hb with ⟨_, h0⟩ | ⟨B, off, ys, rfl, hB, hg, hsz, hc⟩
      · omega
      · have hspare : ∀ j, j < 1 → (w.cell? ⟨B, off + l.length + j, none⟩).isSome = true := fun j hj => by rw [cellOf hg, Array.getElem?_eq_getElem (by omega)]; rfl
        refine Calls.mono (Any2.slices_Insert_int_end_room Try.laysIns B off l.length c vb 0 1 1 [.int .i64 (x : Int)] w (by omega) hroom h63 rfl hspare (fun j hj => k_rowF hg _) hvs (k_one_int _)) ?_
        rintro e w' ⟨rfl, rfl⟩
        obtain ⟨ys', h1, h2⟩ := setCells_row B 3 [.int .i64 (x : Int)] (off + l.length) w ys hg
        refine ⟨_, rfl, ⟨some ⟨B, off, none⟩, c, by simp, by simp; omega, hcm, Or.inr ⟨B, off, ys', rfl, hB, h1, by omega, fun j y hj => ?_⟩⟩, setCells_grown _ _ _ _, Or.inl rfl⟩
        rw [← cellOf h1]
        by_cases hjl : j < l.length
        · rw [List.getElem?_append_left hjl] at hj
          rw [World.cell?_setCells_out _ _ _ _ _ (fun _ _ => Or.inl (by show off + j < off + l.length; omega)), cellOf hg]
          exact hc j y hj
        · rw [List.getElem?_append_right (by omega)] at hj
          have hj0 : j = l.length := by
            have := (List.getElem?_eq_some_iff.1 hj).1
            simp at this
            omega
          subst hj0
          rw [Nat.sub_self] at hj
          injection hj with hj
          have := World.cell?_setCells_in B [.int .i64 (x : Int)] (off + l.length) w hspare 0 (Nat.lt_succ_self 0)
          rw [← hj]
          exact this
    · have hcl : c = l.length := by omega
      refine Calls.mono (Any2.slices_Insert_int_end_grow Try.laysIns a l.length c vb 0 1 1 (ns l) [.int .i64 (x : Int)] w (by omega) hnc (by omega) (by omega) (by simp) rfl ?_ ?_ hvs (k_one_int _)) ?_
      · intro ha
        rcases hb with ⟨_, h0⟩ | ⟨B, off, ys, rfl, _⟩
        · omega
        · cases ha
      · intro ad ha j u hj
        rcases hb with ⟨h0, _⟩ | ⟨B, off, ys, h0, hB, hg, hsz, hc⟩
        · rw [h0] at ha; cases ha
        · rw [h0] at ha
          injection ha with ha
          subst ha
          rw [show (⟨B, off, none⟩ : Addr).add j = ⟨B, off + j, none⟩ by simp [Addr.add], cellOf hg]
          simp only [ns, List.getElem?_map, Option.map_eq_some_iff] at hj
          obtain ⟨y, hy, rfl⟩ := hj
          exact hc j y hy
      · rintro e w' ⟨rfl, rfl⟩
        have hG := grownCap_ge w (l.length + 1) c (Try.laysIns_ren.t 3)
        have hG2 := grownCap_le_maxLen w (l.length + 1) c (Try.laysIns_ren.t 3) (by unfold maxLen; omega)
        refine ⟨_, rfl, ⟨some ⟨w.heap.size, 0, none⟩, _, by simp, by simp; exact hG, hG2, Or.inr ⟨w.heap.size, 0, _, rfl, hlo, Go.heap_alloc_new w.drew _, ?_, fun j y hj => ?_⟩⟩, grown_drew0 (grown_alloc _ _ _), Or.inr fun b hb => by injection hb with hb; rw [← hb]; exact Nat.le_refl _⟩
        · simp [Builtin.zeroCells, Value.cells]
          omega
        · rw [Nat.zero_add, Array.getElem?_append_left (by have := (List.getElem?_eq_some_iff.1 hj).1; simp at this ⊢; omega), List.getElem?_toArray]
          by_cases hjl : j < l.length
          · rw [List.getElem?_append_left hjl] at hj
            rw [List.getElem?_append_left (by simpa using hjl)]
            simp [ns, hj]
          · rw [List.getElem?_append_right (by omega)] at hj
            have hj0 : j = l.length := by
              have := (List.getElem?_eq_some_iff.1 hj).1
              simp at this
              omega
            subst hj0
            rw [Nat.sub_self] at hj
            injection hj with hj
            rw [List.getElem?_append_right (by simp)]
            simp [hj]
  · have hin : i < l.length := by omega
    rcases hb with ⟨_, h0⟩ | ⟨B, off, ys, rfl, hB, hg, hsz, hc⟩
    · omega
    have hcs : ∀ (j : Nat) u, (ns l)[j]? = some u → w.cell? ⟨B, off + j, none⟩ = some u := fun j u hj => by
      rw [cellOf hg]
      simp only [ns, List.getElem?_map, Option.map_eq_some_iff] at hj
      obtain ⟨y, hy, rfl⟩ := hj
      exact hc j y hy
    have hvB : vb ≠ B := fun e => hne (by rw [e]; rfl)
    by_cases hroom : l.length + 1 ≤ c
    · have hsp : ∀ j, j < l.length + 1 → (w.cell? ⟨B, off + j, none⟩).isSome = true := fun j hj => by rw [cellOf hg, Array.getElem?_eq_getElem (by omega)]; rfl
      refine Calls.mono (Any2.slices_Insert_int_shift Try.laysIns B off l.length c i vb 0 1 1 (ns l) [.int .i64 (x : Int)] w hin (by omega) hroom h63 hvB (by simp) rfl hcs hsp (fun j hj => k_rowF hg _) hvs h1c (k_one_int _) 3 3 1 ys.size (by simp [World.shape?, hv]) (by simp [World.shape?, hg]) (by omega) (k_rowF hv _) (k_rowF hv _)) ?_
      rintro e w' ⟨rfl, rfl⟩
      obtain ⟨ys1, h1, h2⟩ := setCells_row B 3 ((ns l).drop i) (off + (i + 1)) w.drew ys hg
      obtain ⟨ys2, h3, h4⟩ := setCells_row B 3 [.int .i64 (x : Int)] (off + i) _ ys1 h1
      refine ⟨_, rfl, ⟨some ⟨B, off, none⟩, c, by rw [hil], by rw [hil]; exact hroom, hcm, Or.inr ⟨B, off, ys2, rfl, hB, h3, by omega, fun j y hj => ?_⟩⟩, grown_drew0 (grown_trans (setCells_grown _ _ _ _) (setCells_grown _ _ _ _)), Or.inl rfl⟩
      rw [← cellOf h3]
      have hdl : ((ns l).drop i).length = l.length - i := by simp
      have hin1 : ∀ t, t < 1 → (((w.drew.setCells B (off + (i + 1)) ((ns l).drop i))).cell? ⟨B, off + i + t, none⟩).isSome = true := fun t ht => by rw [cellOf h1, Array.getElem?_eq_getElem (by omega)]; rfl
      rcases insAt_at hi hj with ⟨hji, hy⟩ | ⟨rfl, rfl⟩ | ⟨hji, hy⟩
      · rw [World.cell?_setCells_out _ _ _ _ _ (fun _ _ => Or.inl (by show off + j < off + i; omega)), World.cell?_setCells_out _ _ _ _ _ (fun _ _ => Or.inl (by show off + j < off + (i + 1); omega))]
        exact (cellOf hg _).trans (hc j y hy)
      · exact World.cell?_setCells_in B [.int .i64 (y : Int)] (off + j) _ hin1 0 (Nat.lt_succ_self 0)
      · rw [World.cell?_setCells_out _ _ _ _ _ (fun _ _ => Or.inr (by show off + i + 1 ≤ off + j; omega))]
        have hjl := (List.getElem?_eq_some_iff.1 hy).1
        have h5 := World.cell?_setCells_in B ((ns l).drop i) (off + (i + 1)) w.drew (fun t ht => by
          rw [hdl] at ht
          have : w.drew.cell? ⟨B, off + (i + 1) + t, none⟩ = ys[off + (i + 1) + t]? := cellOf (w := w.drew) hg _
          rw [this, Array.getElem?_eq_getElem (by omega)]; rfl) (j - (i + 1)) (by rw [hdl]; omega)
        rw [show off + (i + 1) + (j - (i + 1)) = off + j by omega] at h5
        rw [h5]
        have h6 : ((ns l).drop i)[j - (i + 1)]? = some (.int .i64 (y : Int)) := by
          rw [List.getElem?_drop, show i + (j - (i + 1)) = j - 1 by omega]
          simp [ns, hy]
        rw [← h6]
        exact (List.getElem?_eq_getElem _).symm
    · have hcl : c = l.length := by omega
      refine Calls.mono (Any2.slices_Insert_int_grow Try.laysIns B off l.length c i vb 0 1 1 (ns l) [.int .i64 (x : Int)] w hin (by omega) hnc (by omega) (by omega) (by simp) rfl hcs hvs h1c (k_one_int _)) ?_
      rintro e w' ⟨rfl, rfl⟩
      have hG := grownCap_ge w (l.length + 1) c (Try.laysIns_ren.t 3)
      have hG2 := grownCap_le_maxLen w (l.length + 1) c (Try.laysIns_ren.t 3) (by unfold maxLen; omega)
      obtain ⟨G, hGe⟩ : ∃ G, G = grownCap w (l.length + 1) c (Try.laysIns_ren.t 3) := ⟨_, rfl⟩
      rw [← hGe] at hG hG2 ⊢
      obtain ⟨R, hR⟩ : ∃ R : Array Value, R = (((ns l).take i).toArray ++ Builtin.zeroCells (Value.int .i64 0).cells (l.length + 1 - i) ++ Builtin.zeroCells (Value.int .i64 0).cells (G - (l.length + 1))) := ⟨_, rfl⟩
      rw [← hR]
      have hRs : R.size = G := by rw [hR]; simp [Builtin.zeroCells, Value.cells]; omega
      have g0 : (w.alloc (.cells R 3)).drew.heap[w.heap.size]? = some (.cells R 3 (0, 0)) := Go.heap_alloc_new w _
      obtain ⟨ys1, h1, h2⟩ := setCells_row w.heap.size 3 [.int .i64 (x : Int)] i _ R g0
      obtain ⟨ys2, h3, h4⟩ := setCells_row w.heap.size 3 ((ns l).drop i) (i + 1) (((w.alloc (.cells R 3)).drew.setCells w.heap.size i [.int .i64 (x : Int)]).drew) ys1 h1
      have hgr : w.grownBy ((((w.alloc (.cells R 3)).drew.setCells w.heap.size i [.int .i64 (x : Int)]).drew).setCells w.heap.size (i + 1) ((ns l).drop i)) (some B) := by
        have q1 := setCells_grown w.heap.size [.int .i64 (x : Int)] i (w.alloc (.cells R 3)).drew
        have q2 := setCells_grown w.heap.size ((ns l).drop i) (i + 1) (((w.alloc (.cells R 3)).drew.setCells w.heap.size i [.int .i64 (x : Int)]).drew)
        have q0 := grown_trans (grown_drew q1) q2
        have a0 := grown_drew (grown_alloc w (some B) (.cells R 3))
        exact ⟨q0.os.trans a0.os, q0.tape.trans a0.tape, q0.output.trans a0.output, Nat.le_trans a0.size q0.size, fun k hk hne => (q0.block k (Nat.lt_of_lt_of_le hk a0.size) (fun e => by injection e with e; omega)).trans (a0.block k hk hne)⟩
      refine ⟨_, rfl, ⟨some ⟨w.heap.size, 0, none⟩, G, by rw [hil], by rw [hil]; exact hG, hG2, Or.inr ⟨w.heap.size, 0, ys2, rfl, hlo, h3, by omega, fun j y hj => ?_⟩⟩, hgr, Or.inr fun b hb => by injection hb with hb; rw [← hb]; exact Nat.le_refl _⟩
      rw [← cellOf h3, Nat.zero_add]
      have hdl : ((ns l).drop i).length = l.length - i := by simp
      have hin1 : ∀ t, t < 1 → ((w.alloc (.cells R 3)).drew.cell? ⟨w.heap.size, i + t, none⟩).isSome = true := fun t ht => by rw [cellOf g0, Array.getElem?_eq_getElem (by omega)]; rfl
      rcases insAt_at hi hj with ⟨hji, hy⟩ | ⟨rfl, rfl⟩ | ⟨hji, hy⟩
      · rw [World.cell?_setCells_out _ _ _ _ _ (fun _ _ => Or.inl (by show j < i + 1; omega))]
        show ((w.alloc (.cells R 3)).drew.setCells w.heap.size i [.int .i64 (x : Int)]).cell? _ = _
        rw [World.cell?_setCells_out _ _ _ _ _ (fun _ _ => Or.inl (by show j < i; omega)), cellOf g0, hR, Array.append_assoc, Array.getElem?_append_left (by simp; omega), List.getElem?_toArray, List.getElem?_take_of_lt hji]
        simp [ns, hy]
      · rw [World.cell?_setCells_out _ _ _ _ _ (fun _ _ => Or.inl (by show j < j + 1; omega))]
        exact World.cell?_setCells_in w.heap.size [.int .i64 (y : Int)] j _ hin1 0 (Nat.lt_succ_self 0)
      · have hjl := (List.getElem?_eq_some_iff.1 hy).1
        have h5 := World.cell?_setCells_in w.heap.size ((ns l).drop i) (i + 1) (((w.alloc (.cells R 3)).drew.setCells w.heap.size i [.int .i64 (x : Int)]).drew) (fun t ht => by
          rw [hdl] at ht
          rw [cellOf (w := (((w.alloc (.cells R 3)).drew.setCells w.heap.size i [.int .i64 (x : Int)]).drew)) h1, Array.getElem?_eq_getElem (by omega)]; rfl) (j - (i + 1)) (by rw [hdl]; omega)
        rw [show i + 1 + (j - (i + 1)) = j by omega] at h5
        rw [h5]
        have h6 : ((ns l).drop i)[j - (i + 1)]? = some (.int .i64 (y : Int)) := by
          rw [List.getElem?_drop, show i + (j - (i + 1)) = j - 1 by omega]
          simp [ns, hy]
        rw [← h6]
        exact (List.getElem?_eq_getElem _).symm

end Go.Proofs.Ytjopfpchbakggaa
