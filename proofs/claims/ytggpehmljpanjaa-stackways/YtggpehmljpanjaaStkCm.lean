/- The walk's steps: a place is come to; the last that is open is taken. -/
import Derived.Test.YtggpehmljpanjaaStkW
import Derived.Test.YtggpehmljpanjaaStkNx
set_option linter.unusedSimpArgs false
set_option linter.unusedVariables false
set_option maxRecDepth 10000
namespace Go.Proofs.Ytggpehmljpanjaa
open Go.RowKit

theorem k_own_ext {base : Nat} {w0 W w1 : World} {t : Value} {k : Nat} {xs : List Value} {ty : TypeId} (ho : W.ownsRow base ty 1 t k xs) (hbase : base = w0.heap.size) (hb : Ext w0 W) (hgrow : W.grownBy w1 t.ownBlock) : Ext w0 w1 := by
  refine Below.grown hb hgrow hb.size ?_
  intro j hj
  rw [← hbase]
  exact (ho.lt j hj).1

theorem WkS.push {w0 w w3 : World} {B H : Nat} {a : Option Addr} {cap n : Nat} {st : KW} {oa : Option Addr} {oc : Nat} {ob : Obj} {g' cap' : Nat} (h : WkS w0 w B H a cap n st oa oc) (j : Nat) (x : Int) (hj : j < n) (hx : -1 ≤ x ∧ x ≤ 64)
    (g1 : ((w.setCell ⟨H, j, none⟩ (.int .i64 x)).alloc ob).grownBy w3 (Value.slice oa st.op.length oc).ownBlock)
    (ho : w3.ownsRow w0.heap.size 3 1 (.slice (some ⟨g', 0, none⟩) (st.op.length + 1) cap') (st.op.length + 1) (ns st.op.reverse ++ [.int .i64 (j : Int)]))
    (hw : (Value.slice oa st.op.length oc).ownBlock = some g' ∨ ((w.setCell ⟨H, j, none⟩ (.int .i64 x)).alloc ob).heap.size ≤ g') :
    WkS w0 (w3.setCell ⟨B, 2, none⟩ (.slice (some ⟨g', 0, none⟩) (st.op.length + 1) cap')) B H a cap n ⟨st.hs.set j x, j :: st.op, st.f⟩ (some ⟨g', 0, none⟩) cap' ∧
      WkF B H oa (some ⟨g', 0, none⟩) w (w3.setCell ⟨B, 2, none⟩ (.slice (some ⟨g', 0, none⟩) (st.op.length + 1) cap')) := by
  have hz : (w.setCell ⟨H, j, none⟩ (.int .i64 x)).heap.size = w.heap.size := by simp [World.setCell]
  have hBl := k_lt h.rB
  have hHl := k_lt h.rH
  have hnB : some B ≠ (Value.slice oa st.op.length oc).ownBlock := fun e => (h.aB B e.symm).1 rfl
  have hnH : some H ≠ (Value.slice oa st.op.length oc).ownBlock := fun e => (h.aB H e.symm).2 rfl
  have hsz : ((w.setCell ⟨H, j, none⟩ (.int .i64 x)).alloc ob).heap.size = w.heap.size + 1 := by rw [heap_alloc_size, hz]
  have hgB : g' ≠ B := by
    rcases hw with e | e
    · exact (h.aB g' e).1
    · omega
  have hgH : g' ≠ H := by
    rcases hw with e | e
    · exact (h.aB g' e).2
    · omega
  have e1 : Ext w0 ((w.setCell ⟨H, j, none⟩ (.int .i64 x)).alloc ob) := (h.ext.set h.bH _).trans (Ext.alloc _ _)
  have r1 : ((w.setCell ⟨H, j, none⟩ (.int .i64 x)).alloc ob).heap[B]? = _ := (Ext.alloc _ ob).block B (by omega) |>.trans ((Below.heap_setCell w ⟨H, j, none⟩ (.int .i64 x) B h.ne).trans h.rB)
  have r2 : ((w.setCell ⟨H, j, none⟩ (.int .i64 x)).alloc ob).heap[H]? = _ := (Ext.alloc _ ob).block H (by omega) |>.trans (k_row_set h.rH j (.int .i64 x))
  have o1 : ((w.setCell ⟨H, j, none⟩ (.int .i64 x)).alloc ob).ownsRow w0.heap.size 3 1 (.slice oa st.op.length oc) st.op.length (ns st.op.reverse) :=
    k_own_heap h.own (fun i hi => ((Ext.alloc _ ob).block i (by rw [hz]; exact (h.own.lt i hi).2)).trans (Below.heap_setCell _ _ _ _ (h.aB i hi).2))
  have e3 : Ext w0 w3 := k_own_ext o1 rfl e1 g1
  have r3 : w3.heap[B]? = _ := (g1.block B (by omega) hnB).trans r1
  have r4 : w3.heap[H]? = _ := (g1.block H (by omega) hnH).trans r2
  refine ⟨⟨e3.set h.bB _, h.bB, h.bH, h.ne, ?_, ?_, ?_, ?_, ?_⟩, ?_⟩
  · simpa only [List.setIfInBounds_toArray, List.set_cons_zero, List.set_cons_succ, List.length_cons] using k_row_set r3 2 (.slice (some ⟨g', 0, none⟩) (st.op.length + 1) cap')
  · refine (Below.heap_setCell _ _ _ _ (Ne.symm h.ne)).trans (r4.trans ?_)
    simp [zs, List.map_set]
  · refine ⟨by simpa using h.ok.1, fun i hi => ?_, fun y hy => ?_⟩
    · rcases List.mem_cons.1 hi with rfl | hi
      · exact hj
      · exact h.ok.2.1 i hi
    · rcases List.mem_or_eq_of_mem_set hy with hy | rfl
      · exact h.ok.2.2 y hy
      · exact hx
  · have := k_own_heap (W := w3.setCell ⟨B, 2, none⟩ (.slice (some ⟨g', 0, none⟩) (st.op.length + 1) cap')) ho (fun i hi => Below.heap_setCell _ _ _ _ (by simp only [Value.ownBlock, Option.some.injEq] at hi; subst hi; exact hgB))
    simpa [ns] using this
  · intro k hk
    simp only [Value.ownBlock, Option.some.injEq] at hk
    subst hk
    exact ⟨hgB, hgH⟩
  · have hs3 := g1.size
    refine ⟨by simp [World.setCell]; omega, fun k hk h1 h2 h3 => ?_, fun k hk => ?_⟩
    · refine (Below.heap_setCell _ _ _ _ h1).trans ((g1.block k (by omega) (fun e => h3 (by rw [obk_eq] at e; exact e.symm))).trans (((Ext.alloc _ ob).block k (by omega)).trans (Below.heap_setCell _ _ _ _ h2)))
    · simp only [obk, Value.ownBlock, Option.some.injEq] at hk
      subst hk
      rcases hw with e | e
      · rw [obk_eq] at e
        exact Or.inl e
      · exact Or.inr (by omega)

/-- What a step of the walk leaves. -/
def WkE (w0 w : World) (B H : Nat) (a : Option Addr) (cap n : Nat) (oa : Option Addr) (st : KW) (e : Ending) (w' : World) : Prop := e = .returned (.tuple #[]) ∧ ∃ oa' oc, WkS w0 w' B H a cap n st oa' oc ∧ WkF B H oa oa' w w'

theorem kCome_bad {n : Nat} {st : KW} {to h : Int} (hb : (n : Int) ≤ to ∨ 64 < h) : kCome n st to h = ⟨st.hs, st.op, true⟩ := by unfold kCome; rw [if_pos hb]
theorem kCome_at {n : Nat} {st : KW} {j : Nat} {h x : Int} (h1 : j < n) (h2 : h ≤ 64) (hx : st.hs[j]? = some x) : kCome n st (j : Int) h = if x = -1 then ⟨st.hs.set j h, j :: st.op, st.f⟩ else if x = h then st else ⟨st.hs, st.op, true⟩ := by
  unfold kCome
  rw [if_neg (by omega), show ((j : Int)).toNat = j by omega, hx]

theorem rH_at {l : List Int} {j : Nat} {x : Int} (h : l[j]? = some x) : (zs l).toArray[j]? = some (.int .i64 x) := by simp [zs, h]

set_option maxHeartbeats 1000000 in
theorem come_w (w0 w : World) (B H : Nat) (a : Option Addr) (cap n : Nat) (st : KW) (oa : Option Addr) (oc : Nat) (j : Nat) (h : Int) (S : WkS w0 w B H a cap n st oa oc) (hop : st.op.length ≤ 10000000) (hn : n ≤ 1000000) (hh : -1 ≤ h) :
    Calls Try.prog 29 #[.pointer (some ⟨B, 0, none⟩), .int .i64 (j : Int), .int .i64 h] w (WkE w0 w B H a cap n oa (kCome n st j h)) := by
  have c0 := k_rowC S.rB 0 rfl
  have c1 := k_rowC S.rB 1 rfl
  have c2 := k_rowC S.rB 2 rfl
  have c3 := k_rowC S.rB 3 rfl
  have zf := k_rowF S.rB
  have HS := hide S
  by_cases h1 : n ≤ j
  · rw [kCome_bad (Or.inl (by omega))]
    clear S
    go_enter Try.func29, Try.ntmps29
    go_wp2_with fail
    go_end0
    exact ⟨rfl, _, _, (unhide HS).fault, WkF.fault _ _ _ _⟩
  · by_cases h2 : h ≤ 64
    · have hj : j < st.hs.length := by rw [S.ok.1]; omega
      obtain ⟨x, hx⟩ : ∃ x, st.hs[j]? = some x := ⟨_, List.getElem?_eq_getElem hj⟩
      rw [kCome_at (by omega) h2 hx]
      have cx : w.cell? ⟨H, j, none⟩ = some (.int .i64 x) := k_rowC S.rH j (rH_at hx)
      have fx := k_rowF S.rH j
      have hne := S.ne
      by_cases h3 : x = -1
      · rw [if_pos h3]
        subst h3
        have hc2 : (w.setCell ⟨H, j, none⟩ (.int .i64 h)).cell? ⟨B, 2, none⟩ = some (.slice oa st.op.length oc) := by
          rw [World.cell?_of_block (w := w) (Below.heap_setCell _ _ _ _ hne)]; exact c2
        have HO : Hd (∀ ob, ((w.setCell ⟨H, j, none⟩ (.int .i64 h)).alloc ob).ownsRow w0.heap.size 3 1 (.slice oa st.op.length oc) st.op.length (ns st.op.reverse)) := fun ob =>
          k_own_heap S.own (fun i hi => ((Ext.alloc _ ob).block i (by simp [World.setCell]; exact (S.own.lt i hi).2)).trans (Below.heap_setCell _ _ _ _ (S.aB i hi).2))
        have HL : Hd (∀ ob, w0.heap.size ≤ ((w.setCell ⟨H, j, none⟩ (.int .i64 h)).alloc ob).heap.size) := fun ob => by
          have := S.ext.size
          rw [heap_alloc_size]; simp [World.setCell]; omega
        have HP := hide (fun (w3 : World) (ob : Obj) (g' cap' : Nat) => S.push (w3 := w3) (ob := ob) (g' := g') (cap' := cap') j h (by omega) ⟨hh, h2⟩)
        have hZ : (w.setCell ⟨H, j, none⟩ (.int .i64 h)).heap.size = w.heap.size := by simp [World.setCell]
        have HZ := hide hZ
        have hF : ∀ (w3 : World) (i : Nat), w3.heap[B]? = some (.cells #[.slice a n cap, .slice (some ⟨H, 0, none⟩) n n, .slice oa st.op.length oc, .bool st.f] 61 (0, 0)) → w3.frozen? ⟨B, i, none⟩ = false := fun w3 i hh => k_rowF hh i
        have HF := hide hF
        have HrB : Hd (∀ (w3 : World) (ob : Obj), ((w.setCell ⟨H, j, none⟩ (.int .i64 h)).alloc ob).grownBy w3 (Value.slice oa st.op.length oc).ownBlock → w3.heap[B]? = some (.cells #[.slice a n cap, .slice (some ⟨H, 0, none⟩) n n, .slice oa st.op.length oc, .bool st.f] 61 (0, 0))) := fun w3 ob g => by
          have hBl := k_lt S.rB
          refine (g.block B (by rw [heap_alloc_size, hZ]; omega) (fun e => (S.aB B e.symm).1 rfl)).trans (((Ext.alloc _ ob).block B (by rw [hZ]; exact hBl)).trans ((Below.heap_setCell _ _ _ _ hne).trans S.rB))
        obtain ⟨i0, hi, hz0, hz1, hz2⟩ := k_info
        have HI := hide hi
        have Z0 := hide hz0
        have Z1 := hide hz1
        have Z2 := hide hz2
        have hlt : j < n := by omega
        clear hi hz0 hz1 hz2 hZ hF S hj hx
        generalize ns st.op.reverse = XS at HO HP
        go_enter Try.func29, Try.ntmps29
        go_wp2_with (at_builtin; refine kapp_list rfl (.tmp 41) (.tmp 43) 42 rfl w0.heap.size 3 i0 (.int .i64 0) 1 8 Try.underlying42 (unhide HI) (unhide Z0) (unhide Z1) (unhide Z2) rfl (by decide) oa st.op.length oc _ rfl (unhide HO _) ⟨w.heap.size, 0, none⟩ 1 1 [.int .i64 (j : Int)] rfl (by decide) rfl (k_new _ _ (unhide HZ).symm _ _) (k_one_int _) ?c1 ?c2 (unhide HL _) ?_)
        case c1 => unfold maxLen; omega
        case c2 => omega
        intro g' cap' w3 ho hg hw
        have hrow := unhide HrB w3 _ hg
        have fz := k_rowF hrow 2
        have d2 := k_rowC hrow 2 rfl
        have HW := hide (unhide HP w3 _ g' cap' hg ho (hw.imp id (fun e => by rw [heap_alloc_size, unhide HZ]; exact e)))
        clear ho hg hw hrow
        go_wp2_with fail
        go_end0
        exact ⟨rfl, _, _, unhide HW⟩
      · rw [if_neg h3]
        have b3 : (x == -1) = false := by rw [beq_eq_false_iff_ne]; exact h3
        by_cases h4 : x = h
        · rw [if_pos h4]
          have b4 : (x == h) = true := by rw [beq_iff_eq]; exact h4
          clear S hj hx h3 h4
          go_enter Try.func29, Try.ntmps29
          go_wp2_with fail
          go_end0
          exact ⟨rfl, _, _, unhide HS, WkF.of (Ext.refl _)⟩
        · rw [if_neg h4]
          have b4 : (x == h) = false := by rw [beq_eq_false_iff_ne]; exact h4
          clear S hj hx h3 h4
          go_enter Try.func29, Try.ntmps29
          go_wp2_with fail
          go_end0
          exact ⟨rfl, _, _, (unhide HS).fault, WkF.fault _ _ _ _⟩
    · rw [kCome_bad (Or.inr (by omega))]
      clear S
      go_enter Try.func29, Try.ntmps29
      go_wp2_with fail
      go_end0
      exact ⟨rfl, _, _, (unhide HS).fault, WkF.fault _ _ _ _⟩

theorem WkS.pop {w0 w : World} {B H : Nat} {a : Option Addr} {cap n : Nat} {st : KW} {oa : Option Addr} {oc j : Nat} {r : List Nat} (h : WkS w0 w B H a cap n st oa oc) (hr : st.op = j :: r) :
    WkS w0 (w.setCell ⟨B, 2, none⟩ (.slice oa r.length oc)) B H a cap n ⟨st.hs, r, st.f⟩ oa oc := by
  have hk : ∀ k, (Value.slice oa r.length oc).ownBlock = some k → (Value.slice oa st.op.length oc).ownBlock = some k := fun k e => by cases oa <;> exact e
  have ho := k_own_prefix (m := r.length) h.own (by rw [hr]; simp)
  have e : (ns st.op.reverse).take (r.length * 1) = ns r.reverse := by
    rw [hr, Nat.mul_one]
    simp only [ns, List.reverse_cons, List.map_append]
    rw [List.take_append_of_le_length (by simp)]
    rw [List.take_of_length_le (by simp)]
  rw [e] at ho
  refine ⟨h.ext.set h.bB _, h.bB, h.bH, h.ne, ?_, k_row_other h.rH (Ne.symm h.ne) _ _, ⟨h.ok.1, fun i hi => h.ok.2.1 i (by rw [hr]; exact List.mem_cons_of_mem _ hi), h.ok.2.2⟩, k_own_heap ho (fun i hi => Below.heap_setCell _ _ _ _ (h.aB i (hk i hi)).1), fun k e => h.aB k (hk k e)⟩
  simpa only [List.setIfInBounds_toArray, List.set_cons_zero, List.set_cons_succ] using k_row_set h.rB 2 (.slice oa r.length oc)

theorem WkS.top {w0 w : World} {B H : Nat} {a : Option Addr} {cap n : Nat} {st : KW} {oa : Option Addr} {oc j : Nat} {r : List Nat} (h : WkS w0 w B H a cap n st oa oc) (hr : st.op = j :: r) :
    ∃ g, oa = some ⟨g, 0, none⟩ ∧ r.length + 1 ≤ oc ∧ w.cell? ⟨g, r.length, none⟩ = some (.int .i64 (j : Int)) := by
  have ho := h.own
  rw [hr] at ho
  obtain ⟨h1, ⟨e, h0⟩ | ⟨g, cap2, cur, e, hb, hg, hn, _⟩⟩ := id ho
  · simp at h0
  · injection e with e1 e2 e3
    subst e1 e3
    have hc := ho.cells (g := g) rfl r.length (.int .i64 (j : Int)) (by simp [ns])
    rw [k_add] at hc
    exact ⟨g, rfl, hn, hc⟩

set_option maxHeartbeats 1000000 in
theorem take_w (w0 w : World) (B H : Nat) (a : Option Addr) (cap n : Nat) (st : KW) (oa : Option Addr) (oc : Nat) (j : Nat) (r : List Nat) (S : WkS w0 w B H a cap n st oa oc) (hr : st.op = j :: r) (hop : st.op.length ≤ 10000000) :
    Calls Try.prog 31 #[.pointer (some ⟨B, 0, none⟩)] w fun e w' => e = .returned (.int .i64 (j : Int)) ∧ ∃ oa oc, WkS w0 w' B H a cap n ⟨st.hs, r, st.f⟩ oa oc := by
  have HP := hide (S.pop hr)
  obtain ⟨g, rfl, hcap, ct⟩ := S.top hr
  have c2 : w.cell? ⟨B, 2, none⟩ = some (.slice (some ⟨g, 0, none⟩) (r.length + 1) oc) := by
    have := k_rowC S.rB 2 rfl
    rw [hr] at this
    exact this
  have zf := k_rowF S.rB 2
  rw [hr] at hop
  simp only [List.length_cons] at hop
  have HW := HP
  clear S hr
  obtain ⟨R, hR⟩ : ∃ R, R = r.length := ⟨_, rfl⟩
  rw [← hR] at HW HP hop hcap ct c2
  clear hR
  go_enter Try.func31, Try.ntmps31
  go_wp2_with fail
  go_ret
  exact ⟨rfl, _, _, unhide HW⟩

end Go.Proofs.Ytggpehmljpanjaa
