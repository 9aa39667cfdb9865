/- The lists of what is read are bounded; two such trees that are one are found the same by the document. -/
import Derived.Test.YthoablpjkgeekaaGreatDoorZc41
import Derived.Test.YthoablpjkgeekaaGreatDoorZc33
set_option linter.unusedSimpArgs false
set_option linter.unusedVariables false
set_option maxRecDepth 10000

namespace Go.Proofs.YthoablpjkgeekaaGreatDoor
open Go.RowKit

def BLf : Nat → PN → Prop
  | 0, _ => False
  | f + 1, p => p.l.length ≤ 1000000 ∧ ∀ x ∈ p.l, BLf f x
/-- Its lists are bounded, and those of all that is in them. -/
def BL (p : PN) : Prop := ∃ f, BLf f p
theorem BLf.up : ∀ (f : Nat) (p : PN), BLf f p → BLf (f + 1) p
  | 0, p, h => h.elim
  | f + 1, p, h => ⟨h.1, fun x hx => BLf.up f x (h.2 x hx)⟩
theorem BLf.add {f : Nat} {p : PN} (h : BLf f p) (k : Nat) : BLf (f + k) p := by
  induction k with
  | zero => exact h
  | succ k ih => exact BLf.up _ _ ih
theorem BL.all : ∀ (l : List PN), (∀ x ∈ l, BL x) → ∃ f, ∀ x ∈ l, BLf f x
  | [], _ => ⟨0, fun x h => by cases h⟩
  | a :: l, h => by
    obtain ⟨f1, h1⟩ := h a (by simp)
    obtain ⟨f2, h2⟩ := BL.all l (fun x hx => h x (by simp [hx]))
    refine ⟨f1 + f2, fun x hx => ?_⟩
    rcases List.mem_cons.1 hx with rfl | hx
    · exact h1.add f2
    · have := (h2 x hx).add f1
      rw [Nat.add_comm] at this
      exact this
theorem BL.mk (k o : Int) (s : ByteArray) (n : Int) (l : List PN) (h : l.length ≤ 1000000) (hl : ∀ x ∈ l, BL x) : BL ⟨k, o, s, n, l⟩ := by
  obtain ⟨f, hf⟩ := BL.all l hl
  exact ⟨f + 1, h, hf⟩
theorem BL.leaf (k o : Int) (s : ByteArray) (n : Int) : BL ⟨k, o, s, n, []⟩ := BL.mk _ _ _ _ _ (by simp) (fun x h => by cases h)
theorem BL.one {a : PN} (k o : Int) (s : ByteArray) (n : Int) (h : BL a) : BL ⟨k, o, s, n, [a]⟩ := BL.mk _ _ _ _ _ (by simp) (fun x hx => by simp at hx; subst hx; exact h)
theorem BL.two {a b : PN} (k o : Int) (s : ByteArray) (n : Int) (h : BL a) (h2 : BL b) : BL ⟨k, o, s, n, [a, b]⟩ := BL.mk _ _ _ _ _ (by simp) (fun x hx => by simp at hx; rcases hx with rfl | rfl; exact h; exact h2)
/-- A reader whose trees are bounded. -/
abbrev BR (f : Rdr) : Prop := ∀ st : PS, st.ts.length ≤ 99999 → BL (f st).1
theorem loop_bl {lv : Int} {sub : Rdr} (h : BR sub) (hs : Shorter sub) : ∀ (f : Nat) (p : PN) (st : PS), BL p → st.ts.length ≤ 99999 → BL (loopP lv sub f p st).1
  | 0, p, st, hp, _ => hp
  | f + 1, p, st, hp, hl => by
    rw [loopP]
    have h1 := takeO_le st lv
    cases e : st.takeO lv with
    | mk b s1 =>
      rw [e] at h1
      cases b
      · exact hp
      · simp only at h1
        exact loop_bl h hs f _ _ (BL.two _ _ _ _ hp (h s1 (by omega))) (by have := hs s1; omega)
theorem lev_bl {lv : Int} {sub : Rdr} (h : BR sub) (hs : Shorter sub) (f : Nat) : BR (levP lv sub f) := fun st hl => loop_bl h hs f _ _ (h st hl) (by have := hs st; omega)
theorem cmp_bl {sub : Rdr} (h : BR sub) (hs : Shorter sub) : BR (cmpP sub) := by
  intro st hl
  unfold cmpP
  have h1 := takeO_le (sub st).2 3
  have h2 := hs st
  cases e : (sub st).2.takeO 3 with
  | mk b s1 =>
    rw [e] at h1
    cases b
    · exact h st hl
    · simp only at h1
      exact BL.two _ _ _ _ (h st hl) (h s1 (by omega))
theorem more_bl {len : Nat} {ex : Rdr} (h : BR ex) (hs : Shorter ex) : ∀ (f : Nat) (acc : List PN) (st : PS), (∀ x ∈ acc, BL x) → acc.length + st.ts.length ≤ 100001 → st.ts.length ≤ 99999 → (∀ x ∈ (moreP len ex f acc st).1, BL x) ∧ (moreP len ex f acc st).1.length ≤ 100001
  | 0, acc, st, ha, hb, _ => ⟨ha, by show acc.length ≤ _; omega⟩
  | f + 1, acc, st, ha, hb, hl => by
    rw [moreP]
    unfold PS.takeS
    cases hc : st.isS ⟨#[44]⟩
    · exact ⟨ha, by show acc.length ≤ _; omega⟩
    · have hlt := next_lt hc
      have h2 := hs st.next
      refine more_bl h hs f _ _ (fun x hx => ?_) ?_ ?_
      · rcases List.mem_append.1 hx with hx | hx
        · exact ha x hx
        · simp at hx; subst hx; exact h _ (by omega)
      · simp; omega
      · omega
theorem ops_bl {len : Nat} {ex : Rdr} (h : BR ex) (hs : Shorter ex) (f : Nat) (c : ByteArray) (st : PS) (hl : st.ts.length ≤ 99999) : (∀ x ∈ (opsP len ex f c st).1, BL x) ∧ (opsP len ex f c st).1.length ≤ 1000000 := by
  unfold opsP PS.takeS
  cases hc : st.isS c
  · have h2 := hs st
    have := more_bl (len := len) h hs f [(ex st).1] (ex st).2 (fun x hx => by simp at hx; subst hx; exact h st (by omega)) (by simp; omega) (by omega)
    exact ⟨this.1, by have := this.2; show (moreP len ex f [(ex st).1] (ex st).2).1.length ≤ _; omega⟩
  · exact ⟨fun x hx => absurd hx (show ¬ x ∈ ([] : List PN) by simp), Nat.zero_le _⟩
theorem lit_bl (len : Nat) : BR (litP len) := by
  intro st _
  unfold litP
  split
  · exact BL.leaf _ _ _ _
  split
  · exact BL.leaf _ _ _ _
  split
  · exact BL.leaf _ _ _ _
  split
  · exact BL.leaf _ _ _ _
  · exact BL.leaf _ _ _ _
theorem inBr_bl {len : Nat} {ex : Rdr} (h : BR ex) (c : ByteArray) : BR (inBrP len ex c) := fun st hl => h _ (by have h1 := enter_le st len; have := next_le (st.enter len); omega)
/-- Fewer words than so many: what is read of them is bounded. -/
abbrev BS (f : Rdr) : Prop := BR f
theorem sgl_bl {len : Nat} {ex : Rdr} (h : BR ex) (hs : Shorter ex) (f : Nat) : BS (sglP len ex f) := by
  intro st hl
  have h1 := enter_le st len
  unfold sglP
  split
  · exact inBr_bl h _ st (by omega)
  split
  · have h2 := psign_le (st.enter len) len ⟨#[91]⟩
    obtain ⟨a, b⟩ := ops_bl (len := len) h hs f ⟨#[93]⟩ _ (Nat.le_trans (Nat.le_trans h2 h1) hl)
    exact BL.mk _ _ _ _ _ b a
  split
  · exact BL.leaf _ _ _ _
  split
  · have h2 := name_le (st.enter len) len
    have h3 := psign_le ((st.enter len).name len).2 len ⟨#[40]⟩
    obtain ⟨a, b⟩ := ops_bl (len := len) h hs f ⟨#[41]⟩ _ (Nat.le_trans (Nat.le_trans h3 (Nat.le_trans h2 h1)) hl)
    exact BL.mk _ _ _ _ _ b a
  · exact lit_bl len st (by omega)
theorem ixLoop_bl {len : Nat} {ex : Rdr} (h : BR ex) (hs : Shorter ex) : ∀ (f : Nat) (p : PN) (st : PS), BL p → st.ts.length ≤ 99999 → BL (ixLoopP len ex f p st).1
  | 0, p, st, hp, _ => hp
  | f + 1, p, st, hp, hl => by
    rw [ixLoopP]
    cases st.oper 7 with
    | none => exact hp
    | some o => exact ixLoop_bl h hs f _ _ (BL.two _ _ _ _ hp (inBr_bl h _ st (by omega))) (Nat.le_trans (inBr_le hs _ st) hl)
theorem idx_bl {len : Nat} {ex : Rdr} (h : BR ex) (hs : Shorter ex) (f : Nat) : BS (idxP len ex f) := fun st hl => ixLoop_bl h hs f _ _ (sgl_bl h hs f st hl) (Nat.le_trans (sgl_le hs f st) hl)

theorem sgn_bl {len : Nat} {sg ex : Rdr} (hg : BR sg) (h : BR ex) (hs : Shorter ex) (f : Nat) : BR (sgnP len sg ex f) := by
  intro st hl
  unfold sgnP
  have h1 := enter_le st len
  have h2 := next_le (st.enter len)
  cases st.oper 6 with
  | none => exact idx_bl h hs f st hl
  | some o => exact BL.one _ _ _ _ (hg _ (by omega))
theorem both_bl (len f : Nat) : BR (bothP len f).1 ∧ BR (bothP len f).2 := by
  induction f with
  | zero => exact ⟨fun _ _ => BL.leaf _ _ _ _, fun _ _ => BL.leaf _ _ _ _⟩
  | succ f ih =>
    obtain ⟨h1, h2⟩ := ih
    obtain ⟨l1, l2⟩ := both_le len f
    have e1 : (bothP len (f + 1)).1 = sgnP len (bothP len f).1 (bothP len f).2 (f + 1) := by rw [bothP]
    have e2 : (bothP len (f + 1)).2 = orP (sgnP len (bothP len f).1 (bothP len f).2 (f + 1)) (f + 1) := by rw [bothP]
    rw [e1, e2]
    have g6 := sgn_bl (len := len) h1 h2 l2 (f + 1)
    have s6 := sgn_le (len := len) l1 l2 (f + 1)
    have g5 := lev_bl (lv := 5) g6 s6 (f + 1)
    have s5 := lev_le (lv := 5) s6 (f + 1)
    have g4 := lev_bl (lv := 4) g5 s5 (f + 1)
    have s4 := lev_le (lv := 4) s5 (f + 1)
    have g3 := cmp_bl g4 s4
    have s3 := cmp_le s4
    have g2 := lev_bl (lv := 2) g3 s3 (f + 1)
    have s2 := lev_le (lv := 2) s3 (f + 1)
    exact ⟨g6, lev_bl (lv := 1) g2 s2 (f + 1)⟩
theorem xr_bl (s : ByteArray) (f : Nat) : BL (xrP s f).1 := (both_bl s.size f).2 (begP s) (by have := begP_len s; omega)

set_option maxHeartbeats 1000000 in
theorem rsame_blf : ∀ (f : Nat) (p : PN), BLf f p → RSameOf p := by
  intro f
  induction f with
  | zero => intro p h; exact h.elim
  | succ f ih0 =>
    rintro ⟨k, o, s, nn, l⟩ ⟨hlen0, hall0⟩ va vb w h1 h2
    have ih : ∀ p ∈ l, RSameOf p := fun p hp => ih0 p (hall0 p hp)
    simp only at hlen0
    have hlen : l.length ≤ 100000000 := by omega
    rw [RepN] at h1 h2
    obtain ⟨a, ca, rfl, _, hA⟩ := h1
    obtain ⟨b, cb, rfl, _, hB⟩ := h2
    have HS : Hd (∀ p ∈ l, RSameOf p) := ih
    have HA := hide hA
    have HB := hide hB
    have HX2 : Hd (∀ o1 o2 : Obj, Ext w ((w.alloc o1).alloc o2)) := fun o1 o2 => (Ext.alloc _ _).trans (Ext.alloc _ _)
    clear hA hB ih ih0 hall0 hlen0
    generalize hN : l.length = n at *
    have HR1 : Hd (∀ W, Ext ((w.alloc (nodW k o s nn a n ca)).alloc (nodW k o s nn b n cb)) W → W.heap[w.heap.size]? = some (nodW k o s nn a n ca) ∧ W.heap[w.heap.size + 1]? = some (nodW k o s nn b n cb)) := fun W x => by
      have e0 : ((w.alloc (nodW k o s nn a n ca)).alloc (nodW k o s nn b n cb)).heap[w.heap.size]? = some (nodW k o s nn a n ca) := ((Ext.alloc _ _).block _ (by rw [size_alloc]; omega)).trans (Go.heap_alloc_new w _)
      have e1 := Go.heap_alloc_new (w.alloc (nodW k o s nn a n ca)) (nodW k o s nn b n cb)
      rw [size_alloc] at e1
      exact ⟨(x.block _ (by rw [size_alloc, size_alloc]; omega)).trans e0, (x.block _ (by rw [size_alloc, size_alloc]; omega)).trans e1⟩
    go_enter Tryz.func12, Tryz.ntmps12
    go_wp2_with fail
    go_loopw [5] (fun t wr => ∃ (j : Nat), t = .int .i64 j ∧ j ≤ n ∧ Hd (Ext ((w.alloc (nodW k o s nn a n ca)).alloc (nodW k o s nn b n cb)) wr)) (fun t _ => n - (intOf t).toNat)
    case atStart => exact ⟨0, rfl, by omega, Ext.refl _⟩
    case round =>
      obtain ⟨j, rfl, hj, hX⟩ := hrel
      obtain ⟨R1, R2⟩ := unhide HR1 _ (unhide hX)
      have c4 := rowC R1 4 rfl
      have d4 := rowC R2 4 rfl
      clear R1 R2
      by_cases hlt : j < n
      · obtain ⟨p, hp⟩ : ∃ p, l[j]? = some p := ⟨_, List.getElem?_eq_getElem (by omega)⟩
        have hW := (unhide HX2 (nodW k o s nn a n ca) (nodW k o s nn b n cb)).trans (unhide hX)
        obtain ⟨b1, o1, x0, x1, x2, x3, x4, rfl, f1, r1, e0, e1, e2, e3, e4⟩ := repNL_at ((unhide HA).inw hW) j p hp
        obtain ⟨b2, o2, y0, y1, y2, y3, y4, rfl, f2, r2, g0, g1, g2, g3, g4⟩ := repNL_at ((unhide HB).inw hW) j p hp
        have HP := hide (fun (W : World) (k : Ext wr W) => unhide HS p (List.mem_of_getElem? hp) _ _ W (r1.inw k) (r2.inw k))
        clear r1 r2 f1 f2 hp hW
        go_wp2_with fail
        go_region_law (first
          | (refine step_call_two rfl 12 (.tmp 52) (.tmp 57) 28 28 rfl _ _ (by simp [Act.eval, Act.put]) (by simp [Act.eval, Act.put]) (enterRSame _ _ _) (Calls.mono (unhide HP _ ((Ext.refl _).drew)) ?_); rintro e w2 ⟨rfl, hw⟩; have X2 := hide (((unhide hX).trans ((Ext.refl _).drew)).trans hw); clear hw; refine ⟨_, rfl, ?_⟩))
        all_goals
          go_wp2_with fail
          go_roundw
          case rel => exact ⟨j + 1, by go_num, by omega, X2⟩
          case measure => simp [intOf]; omega
      · obtain rfl : j = n := by omega
        go_wp2_with fail
        go_ret
        exact ⟨rfl, (unhide HX2 _ _).trans (unhide hX)⟩

theorem rsame_bl (p : PN) (h : BL p) : RSameOf p := by
  obtain ⟨f, hf⟩ := h
  exact rsame_blf f p hf

end Go.Proofs.YthoablpjkgeekaaGreatDoor
