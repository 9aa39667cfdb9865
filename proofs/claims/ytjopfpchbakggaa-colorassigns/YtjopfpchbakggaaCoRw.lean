/- A row that is kept in order: a record of a slice and of a function that compares. -/
import Derived.Test.YtjopfpchbakggaaCoC
set_option linter.unusedSimpArgs false
set_option linter.unusedVariables false
set_option maxRecDepth 10000
namespace Go.Proofs.Ytjopfpchbakggaa
open Go.RowKit

/-- The block F holds a row: the slice v of the numbers l, and what compares. -/
structure CrS (w : World) (lo F : Nat) (fv v : Value) (l : List Nat) : Prop where
  ge : lo ≤ F
  row : Row w F 44 [v, fv]
  bk : Bk w lo v l
theorem Bk.ty {w : World} {lo : Nat} {v : Value} {l : List Nat} (h : Bk w lo v l) {B : Nat} (k : v.ownBlock = some B) : ∃ ys, w.heap[B]? = some (.cells ys 3 (0, 0)) := by
  obtain ⟨a, c, rfl, h1, h2, h3⟩ := h
  rcases h3 with ⟨rfl, _⟩ | ⟨B', off, ys, rfl, hb, hg, r⟩
  · cases k
  · injection k with k
    subst k
    exact ⟨ys, hg⟩
theorem Bk.ne {w : World} {lo : Nat} {v : Value} {l : List Nat} (h : Bk w lo v l) {F : Nat} {t : TypeId} {xs : List Value} (hF : Row w F t xs) (ht : t ≠ 3) : v.ownBlock ≠ some F := fun e => by
  obtain ⟨ys, hy⟩ := h.ty e
  rw [hF] at hy
  injection hy with hy
  injection hy with _ h2 _
  exact ht h2
theorem CrS.to {w w' : World} {lo F : Nat} {fv v : Value} {l : List Nat} (h : CrS w lo F fv v l) (k : ∀ b, b = F ∨ v.ownBlock = some b → w'.heap[b]? = w.heap[b]?) : CrS w' lo F fv v l :=
  ⟨h.ge, (k F (Or.inl rfl)).trans h.row, h.bk.block fun B hB => k B (Or.inr hB)⟩
theorem CrS.ext {w w' : World} {lo F : Nat} {fv v : Value} {l : List Nat} (h : CrS w lo F fv v l) (k : Ext w w') : CrS w' lo F fv v l := ⟨h.ge, h.row.on k, h.bk.ext k⟩
theorem CrS.len {w : World} {lo F : Nat} {fv v : Value} {l : List Nat} (h : CrS w lo F fv v l) : ∃ a c, v = .slice a l.length c := by
  obtain ⟨a, c, e, _⟩ := h.bk
  exact ⟨a, c, e⟩
/-- Of what stood only the block F and the one more have turned. -/
structure CrF (w w' : World) (F : Nat) (o : Option Nat) : Prop where
  os : w'.os = w.os
  tape : w'.tape = w.tape
  output : w'.output = w.output
  size : w.heap.size ≤ w'.heap.size
  block : ∀ k, k < w.heap.size → k ≠ F → some k ≠ o → w'.heap[k]? = w.heap[k]?
theorem CrF.ext {w w' w2 : World} {F : Nat} {o : Option Nat} (h : CrF w w' F o) (k : Ext w' w2) : CrF w w2 F o :=
  ⟨k.os.trans h.os, k.tape.trans h.tape, k.output.trans h.output, Nat.le_trans h.size k.size, fun b h1 h2 h3 => (k.block b (Nat.lt_of_lt_of_le h1 h.size)).trans (h.block b h1 h2 h3)⟩

theorem some_w (w : World) (lo F : Nat) (fv v : Value) (l : List Nat) (h : CrS w lo F fv v l) : Calls Try.prog 16 #[.pointer (some ⟨F, 0, none⟩)] w fun e w' => e = .returned (.bool (decide (0 < l.length))) ∧ w' = w := by
  obtain ⟨a, c, rfl⟩ := h.len
  have z0 := h.row.cell 0 rfl
  clear h
  go_enter Try.func16, Try.ntmps16
  go_wp2_with fail
  go_ret
  exact ⟨rfl, rfl⟩
theorem first_w (w : World) (lo F : Nat) (fv v : Value) (k : Nat) (r : List Nat) (h : CrS w lo F fv v (k :: r)) : Calls Try.prog 17 #[.pointer (some ⟨F, 0, none⟩)] w fun e w' => e = .returned (.int .i64 (k : Int)) ∧ w' = w := by
  obtain ⟨a, c, rfl⟩ := h.len
  have z0 := h.row.cell 0 rfl
  obtain ⟨B, off, rfl, cx⟩ := h.bk.cellAt (j := 0) (y := k) rfl
  rw [Nat.add_zero] at cx
  have hl : 0 < (k :: r).length := by simp
  generalize (k :: r).length = n at *
  clear h
  go_enter Try.func17, Try.ntmps17
  go_wp2_with fail
  go_ret
  exact ⟨rfl, rfl⟩
theorem Bk.tail {w : World} {lo : Nat} {B off c k : Nat} {r : List Nat} (h : Bk w lo (.slice (some ⟨B, off, none⟩) (k :: r).length c) (k :: r)) : Bk w lo (.slice (some ⟨B, off + 1, none⟩) r.length (c - 1)) r := by
  obtain ⟨a', c', e, hnc, hcm, hb⟩ := h
  injection e with e1 e2 e3
  subst e1 e3
  rcases hb with ⟨h0, _⟩ | ⟨B', off', ys, e1, hB, hg, hsz, hc⟩
  · cases h0
  · injection e1 with e1
    injection e1 with e1 e2
    subst e1 e2
    simp at hnc
    refine ⟨_, _, rfl, by omega, by omega, Or.inr ⟨B, off + 1, ys, rfl, hB, hg, by omega, fun j x hj => ?_⟩⟩
    have := hc (j + 1) x (by simpa using hj)
    rw [show off + 1 + j = off + (j + 1) by omega]
    exact this
theorem Bk.empty {w : World} {lo : Nat} {B off : Nat} {r : List Nat} (h : Bk w lo (.slice (some ⟨B, off + 1, none⟩) r.length 0) r) : Bk w lo (.slice (some ⟨B, off, none⟩) r.length 0) r := by
  obtain ⟨a', c', e, hnc, hcm, hb⟩ := h
  injection e with e1 e2 e3
  subst e1 e3
  rcases hb with ⟨h0, _⟩ | ⟨B', off', ys, e1, hB, hg, hsz, hc⟩
  · cases h0
  · injection e1 with e1
    injection e1 with e1 e2
    subst e1 e2
    exact ⟨_, _, rfl, hnc, hcm, Or.inr ⟨B, off, ys, rfl, hB, hg, by omega, fun j x hj => by have := (List.getElem?_eq_some_iff.1 hj).1; omega⟩⟩
theorem Bk.init {w : World} {lo : Nat} {B off c : Nat} {l : List Nat} (h : Bk w lo (.slice (some ⟨B, off, none⟩) l.length c) l) : Bk w lo (.slice (some ⟨B, off, none⟩) (l.length - 1) c) l.dropLast := by
  obtain ⟨a', c', e, hnc, hcm, hb⟩ := h
  injection e with e1 e2 e3
  subst e1 e3
  rcases hb with ⟨h0, _⟩ | ⟨B', off', ys, e1, hB, hg, hsz, hc⟩
  · cases h0
  · injection e1 with e1
    injection e1 with e1 e2
    subst e1 e2
    refine ⟨_, _, by rw [List.length_dropLast], by rw [List.length_dropLast]; omega, hcm, Or.inr ⟨B, off, ys, rfl, hB, hg, hsz, fun j x hj => hc j x ?_⟩⟩
    rw [List.getElem?_dropLast] at hj
    split at hj
    · exact hj
    · cases hj
theorem CrS.setV {w : World} {lo F : Nat} {fv v v' : Value} {l l' : List Nat} (h : CrS w lo F fv v l) (hb : Bk w lo v' l') (ho : v'.ownBlock = v.ownBlock) : CrS (w.setCell ⟨F, 0, none⟩ v') lo F fv v' l' :=
  ⟨h.ge, h.row.set 0 v', hb.set (by rw [ho]; exact h.bk.ne h.row (by decide)) 0 v'⟩
theorem takeFirst_w (w : World) (lo F : Nat) (fv v : Value) (k : Nat) (r : List Nat) (h : CrS w lo F fv v (k :: r)) : Calls Try.prog 19 #[.pointer (some ⟨F, 0, none⟩)] w fun e w' => e = .returned (.int .i64 (k : Int)) ∧ ∃ v', w' = w.setCell ⟨F, 0, none⟩ v' ∧ CrS w' lo F fv v' r ∧ v'.ownBlock = v.ownBlock := by
  obtain ⟨a, c, rfl⟩ := h.len
  have z0 := h.row.cell 0 rfl
  have zf := k_rowF h.row 0
  obtain ⟨B, off, rfl, cx⟩ := h.bk.cellAt (j := 0) (y := k) rfl
  rw [Nat.add_zero] at cx
  have hne : B ≠ F := fun e => h.bk.ne h.row (by decide) (by rw [e]; rfl)
  obtain ⟨a', c', e, hnc, hcm, hb⟩ := id h.bk
  injection e with e1 e2 e3
  subst e1 e3
  have HR := hide h
  have HB := hide h.bk.tail
  have hl1 : ((k :: r).length : Int) - 1 = (r.length : Int) := by simp
  have hl0 : 0 < (k :: r).length := by simp
  have hl2 : 1 ≤ (k :: r).length := by simp
  have hl3 : (k :: r).length - 1 = r.length := by simp
  have hl4 : 1 ≤ c := by simp at hnc; omega
  clear h hb hcm
  generalize (k :: r).length = n at *
  go_enter Try.func19, Try.ntmps19
  go_wp2_with fail
  · subst h
    go_ret
    exact ⟨rfl, _, rfl, (unhide HR).setV (unhide HB).empty rfl, rfl⟩
  · go_ret
    exact ⟨rfl, _, rfl, (unhide HR).setV (unhide HB) rfl, rfl⟩
theorem last_at {l : List Nat} (h : l ≠ []) : l[l.length - 1]? = some (l.getLastD 0) := by
  cases l with
  | nil => exact absurd rfl h
  | cons a r =>
    rw [List.getElem?_eq_getElem (by simp), ← List.getLast_eq_getElem (by simp)]
    rfl
theorem takeLast_w (w : World) (lo F : Nat) (fv v : Value) (l : List Nat) (hl : l ≠ []) (hl6 : l.length ≤ 1000000) (h : CrS w lo F fv v l) : Calls Try.prog 20 #[.pointer (some ⟨F, 0, none⟩)] w fun e w' => e = .returned (.int .i64 (l.getLastD 0 : Nat)) ∧ ∃ v', w' = w.setCell ⟨F, 0, none⟩ v' ∧ CrS w' lo F fv v' l.dropLast ∧ v'.ownBlock = v.ownBlock := by
  obtain ⟨a, c, rfl⟩ := h.len
  have z0 := h.row.cell 0 rfl
  have zf := k_rowF h.row 0
  have hpos : 0 < l.length := by cases l with | nil => exact absurd rfl hl | cons a r => simp
  obtain ⟨B, off, rfl, cx⟩ := h.bk.cellAt (last_at hl)
  have hne : B ≠ F := fun e => h.bk.ne h.row (by decide) (by rw [e]; rfl)
  obtain ⟨a', c', e, hnc, hcm, hb⟩ := id h.bk
  injection e with e1 e2 e3
  subst e1 e3
  have HR := hide h
  have HB := hide h.bk.init
  obtain ⟨n, hn⟩ : ∃ n, n = l.length - 1 := ⟨_, rfl⟩
  have hl1 : (l.length : Int) - 1 = (n : Int) := by omega
  have hl2 : n < l.length := by omega
  have hl3 : n ≤ c := by omega
  have hl4 : ¬ c = 0 := by omega
  rw [← hn] at cx HB
  have HL : Hd (l.getLastD 0 = l.getLastD 0) := rfl
  generalize l.getLastD 0 = x at *
  generalize l.dropLast = r at *
  clear h hb hcm hn hl
  go_enter Try.func20, Try.ntmps20
  go_wp2_with fail
  go_ret
  exact ⟨rfl, _, rfl, (unhide HR).setV (unhide HB) rfl, rfl⟩
/-- What the row's function says of two numbers, in whatever memory was made since. -/
def CmpIs (w : World) (g : FuncId) (cb : Array Value) (l : List Nat) (x : Nat) (cf : Nat → Int) : Prop := (∀ args W, (callFunc g args).run Try.prog W = .ok (.enter g args) W) ∧ (∀ W, Ext w W → ∀ y ∈ l, Calls Try.prog g (#[.int .i64 (y : Int), .int .i64 (x : Int)] ++ cb) W fun e w' => e = .returned (.int .i64 (cf y)) ∧ Ext W w') ∧ ∀ (a b y z : Nat), a ≤ b → l[a]? = some y → l[b]? = some z → cf z < 0 → cf y < 0

set_option maxHeartbeats 2000000 in
theorem add_w (w : World) (lo F : Nat) (g : FuncId) (cb : Array Value) (v : Value) (l : List Nat) (x : Nat) (cf : Nat → Int) (h : CrS w lo F (.func (.func g) #[] cb) v l) (hl : l.length ≤ 100000) (hlo : lo ≤ w.heap.size) (hcmp : CmpIs w g cb l x cf) : Calls Try.prog 18 #[.pointer (some ⟨F, 0, none⟩), .int .i64 (x : Int)] w fun e w' => e = .returned (.tuple #[]) ∧ ∃ v', CrS w' lo F (.func (.func g) #[] cb) v' (insAt l (bI (fun y => decide (cf y < 0)) l) x) ∧ CrF w w' F v.ownBlock ∧ (v'.ownBlock = v.ownBlock ∨ ∀ b, v'.ownBlock = some b → w.heap.size ≤ b) := by
  obtain ⟨p, q, hp⟩ := h.len
  have HR := hide h
  have H1 := hide (fun W (k : Ext w W) => bs_w W lo v l x cf g cb hcmp.1 (h.bk.ext k) (by omega) (fun W2 k2 => hcmp.2.1 W2 (k.trans k2)) hcmp.2.2)
  have z0 := h.row.cell 0 rfl
  have z1 := h.row.cell 1 rfl
  have hne : Nonempty (RGw w) := ⟨⟨w, Ext.refl _⟩⟩
  have v0 := fun y : RGw w => y.h.cell z0
  have v1 := fun y : RGw w => y.h.cell z1
  have H1b := hide (fun y : RGw w => unhide H1 y.w y.h)
  have HLo := hide hlo
  clear h hcmp z0 z1 H1 hlo
  subst hp
  go_enter Try.func18, Try.ntmps18
  go_wp2_with fail
  refine wp_region_rx (W := w) (by kernel_rfl) (by kernel_rfl) (Ext.refl _) ?_
  repeat (go_big_quiet_step ((go_at_call 22; exact Calls.rx_of _ _ (unhide H1b _))))
  refine wpQuiet_nil ?_
  rintro w1 ⟨⟨_, hx⟩, rfl⟩
  have X1 := hide hx
  have R1 := hide ((unhide HR).ext hx)
  have y0 := (unhide R1).row.cell 0 rfl
  have hle := bI_le (fun y => decide (cf y < 0)) l
  obtain ⟨i, hi⟩ : ∃ i, bI (fun y => decide (cf y < 0)) l = i := ⟨_, rfl⟩
  rw [hi] at hle ⊢
  have HI := hide hi
  clear hi
  have H2 := hide (ins_w (w1.alloc (.cells #[.int .i64 (x : Int)] 3)) lo (.slice p l.length q) l i x w1.heap.size ((unhide R1).bk.ext (Ext.alloc _ _)) hle (by omega) (Nat.le_trans (unhide HLo) (Nat.le_trans hx.le (Ext.alloc _ _).le)) (Row.new _ _ _) (fun e => by have := ((unhide R1).bk.lt e).2; omega))
  clear v0 v1 hx
  go_wp2_with (go_at_call 23; refine Calls.mono (unhide H2) ?_; rintro e w3 ⟨v', rfl, hb, hg, ho⟩
               obtain ⟨p', q', rfl⟩ : ∃ a c, v' = .slice a (insAt l i x).length c := by (obtain ⟨a, c, e, _⟩ := hb; exact ⟨a, c, e⟩)
               have R3 := hide (Row.grown ((unhide R1).row.on (Ext.alloc w1 (.cells #[.int .i64 (x : Int)] 3))) hg (fun e => (unhide R1).bk.ne (unhide R1).row (by decide) e.symm))
               have zc := (unhide R3).cell 0 rfl
               have zf := k_rowF (unhide R3) 0
               have HB := hide hb
               have HG := hide hg
               have HO := hide ho
               clear hb hg ho)
  go_end0
  rw [unhide HI]
  have hX : Ext w (w1.alloc (.cells #[.int .i64 (x : Int)] 3)) := (unhide X1).trans (Ext.alloc _ _)
  have hG := unhide HG
  have hFl := k_lt (unhide HR).row
  have hown : (Value.slice p' (insAt l i x).length q').ownBlock ≠ some F := fun e => by
    rcases unhide HO with h | h
    · exact (unhide HR).bk.ne (unhide HR).row (by decide) (h ▸ e)
    · have h1 := h F e
      have h2 := hX.size
      omega
  refine ⟨rfl, _, ⟨(unhide HR).ge, (unhide R3).set 0 _, (unhide HB).set hown 0 _⟩, ⟨hG.os.trans hX.os, hG.tape.trans hX.tape, hG.output.trans hX.output, ?_, fun k hk h1 h2 => k_row_other ((hG.block k (Nat.lt_of_lt_of_le hk hX.size) h2).trans (hX.block k hk)) h1 0 _⟩, ?_⟩
  · have h1 := hX.size
    have h2 := hG.size
    simp [World.setCell]
    simp at h1 h2
    omega
  · rcases unhide HO with h | h
    · exact Or.inl h
    · exact Or.inr fun b e => Nat.le_trans hX.size (h b e)

end Go.Proofs.Ytjopfpchbakggaa
