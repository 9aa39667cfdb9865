/- Blocks of register code whose instructions are outputs of register 0 alone, as plain data; what it is that a world holds them; rows of blocks of one's own. -/
import Derived.Test.YtdnhekgbfhlhoaaGrPk
set_option linter.unusedSimpArgs false
set_option linter.unusedVariables false
set_option maxRecDepth 10000
namespace Go.Proofs.Ytdnhekgbfhlhoaa
open Go.RowKit

/-- A block's end. -/
structure RT where
  k : Int
  a : Int
  t : Int
  e : Int
/-- A block: so many outputs, and its end. -/
structure RB where
  c : Nat
  t : RT
abbrev rtC (t : RT) : List Value := [.int .i64 t.k, .int .i64 t.a, .int .i64 t.t, .int .i64 t.e]
abbrev rtV (t : RT) : Value := .agg #[.int .i64 t.k, .int .i64 t.a, .int .i64 t.t, .int .i64 t.e]
abbrev rbC (b : RB) (d : Option Addr × Nat) : List Value := [.slice d.1 b.c d.2, .int .i64 b.t.k, .int .i64 b.t.a, .int .i64 b.t.t, .int .i64 b.t.e]
abbrev rbV (b : RB) (d : Option Addr × Nat) : Value := .agg #[.slice d.1 b.c d.2, .int .i64 b.t.k, .int .i64 b.t.a, .int .i64 b.t.t, .int .i64 b.t.e]
abbrev outC : List Value := [.int .i64 6, .int .i64 0, .int .i64 0, .int .i64 0, .int .i64 0, .int .i64 0, .int .i64 0, .int .i64 0, .complex .f64 0 0, .string ⟨#[]⟩, .slice none 0 0, .slice none 0 0]
abbrev outV : Value := .agg #[.int .i64 6, .int .i64 0, .int .i64 0, .int .i64 0, .int .i64 0, .int .i64 0, .int .i64 0, .int .i64 0, .complex .f64 0 0, .string ⟨#[]⟩, .slice none 0 0, .slice none 0 0]
abbrev nilV : Value := .agg #[.int .i64 0, .int .i64 0, .complex .f64 0 0, .string ⟨#[]⟩, .slice none 0 0]
/-- So many outputs, cell by cell. -/
def outs : Nat → List Value
  | 0 => []
  | c + 1 => outC ++ outs c
theorem outs_len : ∀ c, (outs c).length = c * 12
  | 0 => rfl
  | c + 1 => by rw [outs, List.length_append, outs_len c]; simp; omega
theorem outs_add : ∀ c d, outs (c + d) = outs c ++ outs d
  | 0, d => by simp [outs]
  | c + 1, d => by rw [show c + 1 + d = (c + d) + 1 by omega, outs, outs, outs_add c d, List.append_assoc]
theorem outs_at : ∀ (c i j : Nat), i < c → j < 12 → (outs c)[i * 12 + j]? = outC[j]?
  | 0, i, j, h, _ => by omega
  | c + 1, 0, j, _, hj => by
    rw [outs, List.getElem?_append_left (by simp; omega)]
    simp
  | c + 1, i + 1, j, h, hj => by
    rw [outs, List.getElem?_append_right (by simp; omega), ← outs_at c i j (by omega) hj]
    congr 1
    simp
    omega
theorem one_out : ∀ c, ∀ u ∈ outs c, u.oneCell' = true
  | 0, u, h => by cases h
  | c + 1, u, h => by
    rw [outs, List.mem_append] at h
    rcases h with h | h
    · simp at h
      rcases h with rfl | rfl | rfl | rfl | rfl <;> rfl
    · exact one_out c u h

/-- A row of blocks, cell by cell. -/
def bC : List RB → List (Option Addr × Nat) → List Value
  | b :: l, d :: ads => rbC b d ++ bC l ads
  | _, _ => []
theorem bC_len : ∀ (l : List RB) (ads : List (Option Addr × Nat)), ads.length = l.length → (bC l ads).length = l.length * 5
  | [], [], _ => rfl
  | [], _ :: _, h => by simp at h
  | _ :: _, [], h => by simp at h
  | b :: l, d :: ads, h => by
    rw [bC, List.length_append, bC_len l ads (by simpa using h)]
    simp
    omega
theorem bC_app : ∀ (l : List RB) (ads : List (Option Addr × Nat)) (m : List RB) (ms : List (Option Addr × Nat)), ads.length = l.length → bC (l ++ m) (ads ++ ms) = bC l ads ++ bC m ms
  | [], [], m, ms, _ => by simp [bC]
  | [], _ :: _, _, _, h => by simp at h
  | _ :: _, [], _, _, h => by simp at h
  | b :: l, d :: ads, m, ms, h => by
    rw [List.cons_append, List.cons_append, bC, bC, bC_app l ads m ms (by simpa using h), List.append_assoc]
theorem bC_split : ∀ (l : List RB) (ads : List (Option Addr × Nat)) (i : Nat) (b : RB) (d : Option Addr × Nat), l[i]? = some b → ads[i]? = some d →
    ∃ p q, bC l ads = p ++ (rbC b d ++ q) ∧ p.length = i * 5 ∧ ∀ b' d', bC (l.set i b') (ads.set i d') = p ++ (rbC b' d' ++ q)
  | [], _, _, _, _, h, _ => by simp at h
  | _ :: _, [], _, _, _, _, h => by simp at h
  | b :: l, d :: ads, 0, b0, d0, h, h' => by
    simp at h h'
    subst h h'
    exact ⟨[], bC l ads, by simp [bC], rfl, fun b' d' => by simp [bC]⟩
  | b :: l, d :: ads, i + 1, b0, d0, h, h' => by
    obtain ⟨p, q, h1, h2, h3⟩ := bC_split l ads i b0 d0 (by simpa using h) (by simpa using h')
    refine ⟨rbC b d ++ p, q, by rw [bC, h1, List.append_assoc], by simp [h2]; omega, fun b' d' => ?_⟩
    rw [List.set_cons_succ, List.set_cons_succ, bC, h3, List.append_assoc]
theorem bC_at {l : List RB} {ads : List (Option Addr × Nat)} {i : Nat} {b : RB} {d : Option Addr × Nat} (h : l[i]? = some b) (h' : ads[i]? = some d) (j : Nat) {v : Value} (hj : (rbC b d)[j]? = some v) : (bC l ads)[i * 5 + j]? = some v := by
  obtain ⟨p, q, e, hp, _⟩ := bC_split l ads i b d h h'
  have hj5 := (List.getElem?_eq_some_iff.1 hj).1
  rw [e, List.getElem?_append_right (by omega), show i * 5 + j - p.length = j by omega, List.getElem?_append_left hj5]
  exact hj
theorem bC_setT {l : List RB} {ads : List (Option Addr × Nat)} {i : Nat} {b : RB} {d : Option Addr × Nat} (h : l[i]? = some b) (h' : ads[i]? = some d) (t : RT) :
    ((((bC l ads).set (i * 5 + 1) (.int .i64 t.k)).set (i * 5 + 2) (.int .i64 t.a)).set (i * 5 + 3) (.int .i64 t.t)).set (i * 5 + 4) (.int .i64 t.e) = bC (l.set i ⟨b.c, t⟩) ads := by
  obtain ⟨p, q, e, hp, h3⟩ := bC_split l ads i b d h h'
  have h4 := h3 ⟨b.c, t⟩ d
  have e2 : ads.set i d = ads := by
    apply List.ext_getElem?
    intro m
    rw [List.getElem?_set]
    split
    · rename_i hm
      subst hm
      rw [h', if_pos (List.getElem?_eq_some_iff.1 h').1]
    · rfl
  rw [e2] at h4
  rw [h4, e]
  simp [List.set_append, hp]
theorem bC_setI {l : List RB} {ads : List (Option Addr × Nat)} {i : Nat} {b : RB} {d : Option Addr × Nat} (h : l[i]? = some b) (h' : ads[i]? = some d) (d' : Option Addr × Nat) :
    (bC l ads).set (i * 5) (.slice d'.1 b.c d'.2) = bC l (ads.set i d') := by
  obtain ⟨p, q, e, hp, h3⟩ := bC_split l ads i b d h h'
  have h4 := h3 b d'
  have e2 : l.set i b = l := by
    apply List.ext_getElem?
    intro m
    rw [List.getElem?_set]
    split
    · rename_i hm
      subst hm
      rw [h, if_pos (List.getElem?_eq_some_iff.1 h).1]
    · rfl
  rw [e2] at h4
  rw [h4, e]
  simp [List.set_append, hp]
theorem one_bC : ∀ (l : List RB) (ads : List (Option Addr × Nat)), ∀ u ∈ bC l ads, u.oneCell' = true
  | [], _, u, h => by simp [bC] at h
  | _ :: _, [], u, h => by simp [bC] at h
  | b :: l, d :: ads, u, h => by
    rw [bC, List.mem_append] at h
    rcases h with h | h
    · simp at h
      rcases h with rfl | rfl | rfl | rfl | rfl <;> rfl
    · exact one_bC l ads u h

/-- The world holds so many outputs where d says; none of them: d is nil. -/
def RepO (w : World) (F : Nat → Prop) (d : Option Addr × Nat) (c : Nat) : Prop := (c = 0 ∧ d = (none, 0)) ∨ (0 < c ∧ ∃ b o, d.1 = some ⟨b, o, none⟩ ∧ F b ∧ ∀ j v, (outs c)[j]? = some v → w.cell? ⟨b, o + j, none⟩ = some v)
theorem RepO.to {w w' : World} {F F' : Nat → Prop} (h : ∀ b, F b → F' b ∧ w'.heap[b]? = w.heap[b]?) {c : Nat} {d : Option Addr × Nat} (hr : RepO w F d c) : RepO w' F' d c := by
  rcases hr with hr | ⟨h0, b, o, hd, hf, hc⟩
  · exact Or.inl hr
  · exact Or.inr ⟨h0, b, o, hd, (h b hf).1, fun j v hj => by rw [World.cell?_of_block (w := w) (h b hf).2]; exact hc j v hj⟩
/-- From the address a on the world holds the blocks of l; their instructions stand where ads says. -/
structure RepB (w : World) (F : Nat → Prop) (a : Option Addr) (l : List RB) (ads : List (Option Addr × Nat)) : Prop where
  len : ads.length = l.length
  row : l = [] ∨ ∃ b o, a = some ⟨b, o, none⟩ ∧ F b ∧ ∀ j v, (bC l ads)[j]? = some v → w.cell? ⟨b, o + j, none⟩ = some v
  ins : ∀ (i : Nat) (b : RB) (d : Option Addr × Nat), l[i]? = some b → ads[i]? = some d → RepO w F d b.c
theorem RepB.to {w w' : World} {F F' : Nat → Prop} (h : ∀ b, F b → F' b ∧ w'.heap[b]? = w.heap[b]?) {l : List RB} {ads : List (Option Addr × Nat)} {a : Option Addr} (hr : RepB w F a l ads) : RepB w' F' a l ads := by
  refine ⟨hr.len, ?_, fun i b d h1 h2 => (hr.ins i b d h1 h2).to h⟩
  rcases hr.row with hr | ⟨b, o, rfl, hf, hc⟩
  · exact Or.inl hr
  · exact Or.inr ⟨b, o, rfl, (h b hf).1, fun j v hj => by rw [World.cell?_of_block (w := w) (h b hf).2]; exact hc j v hj⟩
theorem RepB.ext {w w' : World} {l : List RB} {ads : List (Option Addr × Nat)} {a : Option Addr} (hr : RepB w (In w) a l ads) (h : Ext w w') : RepB w' (In w') a l ads :=
  hr.to fun b hb => ⟨Nat.lt_of_lt_of_le hb h.size, h.block b hb⟩
theorem RepB.at {w : World} {F : Nat → Prop} {l : List RB} {ads : List (Option Addr × Nat)} {a : Option Addr} (hr : RepB w F a l ads) {i : Nat} {b : RB} (h : l[i]? = some b) :
    ∃ g o d, a = some ⟨g, o, none⟩ ∧ F g ∧ ads[i]? = some d ∧ w.cell? ⟨g, o + i * 5, none⟩ = some (.slice d.1 b.c d.2) ∧ w.cell? ⟨g, o + i * 5 + 1, none⟩ = some (.int .i64 b.t.k) ∧ w.cell? ⟨g, o + i * 5 + 2, none⟩ = some (.int .i64 b.t.a) ∧
      w.cell? ⟨g, o + i * 5 + 3, none⟩ = some (.int .i64 b.t.t) ∧ w.cell? ⟨g, o + i * 5 + 4, none⟩ = some (.int .i64 b.t.e) ∧ RepO w F d b.c := by
  have hi := (List.getElem?_eq_some_iff.1 h).1
  obtain ⟨d, hd⟩ : ∃ d, ads[i]? = some d := ⟨_, List.getElem?_eq_getElem (by rw [hr.len]; exact hi)⟩
  rcases hr.row with rfl | ⟨g, o, rfl, hf, hc⟩
  · simp at h
  · have hk := fun j v hj => hc (i * 5 + j) v (bC_at h hd j hj)
    exact ⟨g, o, d, rfl, hf, hd, hk 0 _ rfl, hk 1 _ rfl, hk 2 _ rfl, hk 3 _ rfl, hk 4 _ rfl, hr.ins i b d h hd⟩

/-- What grew in two steps. -/
theorem gb_trans {a b c : World} {r : Option Nat} (h : a.grownBy b r) (k : b.grownBy c r) : a.grownBy c r :=
  ⟨k.os.trans h.os, k.tape.trans h.tape, k.output.trans h.output, Nat.le_trans h.size k.size, fun q hq hn => (k.block q (Nat.lt_of_lt_of_le hq h.size) hn).trans (h.block q hq hn)⟩
theorem gb_ext {a b : World} (h : Ext a b) (r : Option Nat) : a.grownBy b r := ⟨h.os, h.tape, h.output, h.size, fun q hq _ => h.block q hq⟩
theorem gb_refl (a : World) (r : Option Nat) : a.grownBy a r := gb_ext (Ext.refl a) r
/-- A block that is new may turn. -/
theorem gb_new {a b c : World} {g : Nat} {r : Option Nat} (h : a.grownBy b r) (k : b.grownBy c (some g)) (hg : a.heap.size ≤ g) : a.grownBy c r :=
  ⟨k.os.trans h.os, k.tape.trans h.tape, k.output.trans h.output, Nat.le_trans h.size k.size, fun q hq hn => (k.block q (Nat.lt_of_lt_of_le hq h.size) (fun e => by injection e with e; omega)).trans (h.block q hq hn)⟩
theorem ext_gb {a b : World} (h : a.grownBy b none) : Ext a b := ⟨h.os, h.tape, h.output, h.size, fun q hq => h.block q hq (by simp)⟩
theorem gb_row {w w' : World} {g b : Nat} {x : Obj} (h : w.grownBy w' (some g)) (hc : w.heap[b]? = some x) (hne : b ≠ g) : w'.heap[b]? = some x :=
  (h.block b (k_lt hc) (fun e => hne (by injection e))).trans hc

theorem own_setB {w : World} {base : Nat} {t : TypeId} {size g n cap : Nat} {xs : List Value} (h : w.ownsRow base t size (.slice (some ⟨g, 0, none⟩) n cap) n xs) (i : Nat) (v : Value) : (w.setCell ⟨g, i, none⟩ v).ownsRow base t size (.slice (some ⟨g, 0, none⟩) n cap) n (xs.set i v) := by
  obtain ⟨h1, ⟨e, _⟩ | ⟨g2, cap2, cur, e, hb, hg, hn, hc, hs, ht⟩⟩ := h
  · cases e
  · injection e with e1 e2 e3
    injection e1 with e1
    injection e1 with e1 _
    subst e1 e3
    refine ⟨by rw [List.length_set]; exact h1, Or.inr ⟨g, cap, cur.setIfInBounds i v, rfl, hb, k_row_set hg i v, hn, hc, by simp [hs], ?_⟩⟩
    rw [Array.toList_setIfInBounds, List.take_set, ht]
theorem own_keepB {wa wb : World} {base : Nat} {e : TypeId} {size n : Nat} {v : Value} {xs : List Value} (h : wa.ownsRow base e size v n xs) (k : ∀ q, v.ownBlock = some q → wb.heap[q]? = wa.heap[q]?) : wb.ownsRow base e size v n xs := k_own_heap h k
/-- Two rows of cells of two types lie in two blocks. -/
theorem own_twoB {w : World} {base base' : Nat} {e e' : TypeId} {size size' n n' : Nat} {v v' : Value} {xs xs' : List Value} (h : w.ownsRow base e size v n xs) (h' : w.ownsRow base' e' size' v' n' xs') (hne : e ≠ e') : v.ownBlock = none ∨ v.ownBlock ≠ v'.ownBlock := by
  obtain ⟨_, ⟨rfl, _⟩ | ⟨g, cap, cur, rfl, _, hg, _⟩⟩ := h
  · exact Or.inl rfl
  · obtain ⟨_, ⟨rfl, _⟩ | ⟨g2, cap2, cur2, rfl, _, hg2, _⟩⟩ := h'
    · right; simp [Value.ownBlock]
    · right
      intro e1
      simp only [Value.ownBlock, Option.some.injEq] at e1
      subst e1
      rw [hg] at hg2
      injection hg2 with hg2
      injection hg2 with _ e2 _
      exact hne e2

/-- The world holds the blocks of l in a row of one's own, and their instructions in rows of one's own. -/
structure BlS (w : World) (base g cap : Nat) (l : List RB) (ads : List (Option Addr × Nat)) : Prop where
  len : ads.length = l.length
  own : w.ownsRow base 37 5 (.slice (some ⟨g, 0, none⟩) l.length cap) l.length (bC l ads)
  ins : ∀ (i : Nat) (b : RB) (d : Option Addr × Nat), l[i]? = some b → ads[i]? = some d → w.ownsRow base 32 12 (.slice d.1 b.c d.2) b.c (outs b.c)
  nz : ∀ (i : Nat) (b : RB) (d : Option Addr × Nat), l[i]? = some b → ads[i]? = some d → b.c = 0 → d = (none, 0)
theorem own_repO {w : World} {base n : Nat} {d : Option Addr × Nat} (h : w.ownsRow base 32 12 (.slice d.1 n d.2) n (outs n)) (hz : n = 0 → d = (none, 0)) : RepO w (fun q => base ≤ q ∧ q < w.heap.size) d n := by
  by_cases h0 : n = 0
  · exact Or.inl ⟨h0, hz h0⟩
  have ho := h
  obtain ⟨h1, ⟨e, h0⟩ | ⟨g, cap, cur, e, hb, hg, hn, _⟩⟩ := h
  · omega
  · injection e with e1 e2 e3
    refine Or.inr ⟨by omega, g, 0, e1, ⟨hb, k_lt hg⟩, fun j v hj => ?_⟩
    rw [e1] at ho
    have := ho.cells (g := g) rfl j v hj
    rw [k_add] at this
    rw [Nat.zero_add]
    exact this
theorem BlS.rep {w : World} {base g cap : Nat} {l : List RB} {ads : List (Option Addr × Nat)} (h : BlS w base g cap l ads) : RepB w (fun q => base ≤ q ∧ q < w.heap.size) (some ⟨g, 0, none⟩) l ads := by
  refine ⟨h.len, Or.inr ⟨g, 0, rfl, h.own.lt g rfl, fun j v hj => ?_⟩, fun i b d h1 h2 => own_repO (h.ins i b d h1 h2) (h.nz i b d h1 h2)⟩
  have := h.own.cells (g := g) rfl j v hj
  rw [k_add] at this
  rw [Nat.zero_add]
  exact this
theorem BlS.keep {w w' : World} {base g cap : Nat} {l : List RB} {ads : List (Option Addr × Nat)} (h : BlS w base g cap l ads) (k : ∀ q, base ≤ q → q < w.heap.size → w'.heap[q]? = w.heap[q]?) : BlS w' base g cap l ads :=
  ⟨h.len, k_own_heap h.own (fun q hq => k q (h.own.lt q hq).1 (h.own.lt q hq).2), fun i b d h1 h2 => k_own_heap (h.ins i b d h1 h2) (fun q hq => k q ((h.ins i b d h1 h2).lt q hq).1 ((h.ins i b d h1 h2).lt q hq).2), h.nz⟩
theorem BlS.on {w w' : World} {base g cap : Nat} {l : List RB} {ads : List (Option Addr × Nat)} (h : BlS w base g cap l ads) (k : Ext w w') : BlS w' base g cap l ads := h.keep fun q _ hq => k.block q hq
/-- Where only a block of other cells has turned. -/
theorem BlS.grown {w w' : World} {base g cap r : Nat} {l : List RB} {ads : List (Option Addr × Nat)} {cs : Array Value} {t : TypeId} (h : BlS w base g cap l ads) (k : w.grownBy w' (some r)) (hr : w.heap[r]? = some (.cells cs t (0, 0))) (h1 : t ≠ 37) (h2 : t ≠ 32) : BlS w' base g cap l ads := by
  have key : ∀ {e : TypeId} {size n : Nat} {v : Value} {xs : List Value}, w.ownsRow base e size v n xs → t ≠ e → w'.ownsRow base e size v n xs := by
    intro e size n v xs ho hne
    refine k_own_heap ho (fun q hq => k.block q (ho.lt q hq).2 (fun e1 => ?_))
    injection e1 with e1
    subst e1
    obtain ⟨_, ⟨rfl, _⟩ | ⟨g, cap, cur, rfl, _, hg, _⟩⟩ := ho
    · cases hq
    · simp only [Value.ownBlock, Option.some.injEq] at hq
      subst hq
      rw [hr] at hg
      injection hg with hg
      injection hg with _ e2 _
      exact hne e2
  exact ⟨h.len, key h.own h1, fun i b d h3 h4 => key (h.ins i b d h3 h4) h2, h.nz⟩
theorem BlS.cells {w : World} {base g cap : Nat} {l : List RB} {ads : List (Option Addr × Nat)} (h : BlS w base g cap l ads) {i : Nat} {b : RB} (hi : l[i]? = some b) :
    ∃ d, ads[i]? = some d ∧ w.cell? ⟨g, i * 5, none⟩ = some (.slice d.1 b.c d.2) ∧ w.cell? ⟨g, i * 5 + 1, none⟩ = some (.int .i64 b.t.k) ∧ w.cell? ⟨g, i * 5 + 2, none⟩ = some (.int .i64 b.t.a) ∧
      w.cell? ⟨g, i * 5 + 3, none⟩ = some (.int .i64 b.t.t) ∧ w.cell? ⟨g, i * 5 + 4, none⟩ = some (.int .i64 b.t.e) := by
  obtain ⟨g2, o, d, e, _, hd, c0, c1, c2, c3, c4, _⟩ := h.rep.at hi
  injection e with e
  injection e with e1 e2
  subst e1 e2
  simp only [Nat.zero_add] at c0 c1 c2 c3 c4
  exact ⟨d, hd, c0, c1, c2, c3, c4⟩
theorem BlS.row {w : World} {base g cap : Nat} {l : List RB} {ads : List (Option Addr × Nat)} (h : BlS w base g cap l ads) : base ≤ g ∧ g < w.heap.size ∧ l.length ≤ cap ∧ cap ≤ maxLen ∧ ∃ cur, w.heap[g]? = some (.cells cur 37 (0, 0)) := by
  obtain ⟨_, ⟨e, _⟩ | ⟨g2, cap2, cur, e, hb, hg, hn, hc, _⟩⟩ := h.own
  · cases e
  · injection e with e1 e2 e3
    injection e1 with e1
    injection e1 with e1 _
    subst e1 e3
    exact ⟨hb, k_lt hg, hn, hc, cur, hg⟩
theorem BlS.insNe {w : World} {base g cap : Nat} {l : List RB} {ads : List (Option Addr × Nat)} (h : BlS w base g cap l ads) {i : Nat} {b : RB} {d : Option Addr × Nat} (h1 : l[i]? = some b) (h2 : ads[i]? = some d) : (Value.slice d.1 b.c d.2).ownBlock ≠ some g := by
  rcases own_twoB (h.ins i b d h1 h2) h.own (by decide) with e | e
  · rw [e]; simp
  · exact e
/-- An end is turned. -/
theorem BlS.setT {w : World} {base g cap : Nat} {l : List RB} {ads : List (Option Addr × Nat)} (h : BlS w base g cap l ads) {i : Nat} {b : RB} (hi : l[i]? = some b) (t : RT) :
    BlS ((((w.setCell ⟨g, i * 5 + 1, none⟩ (.int .i64 t.k)).setCell ⟨g, i * 5 + 2, none⟩ (.int .i64 t.a)).setCell ⟨g, i * 5 + 3, none⟩ (.int .i64 t.t)).setCell ⟨g, i * 5 + 4, none⟩ (.int .i64 t.e)) base g cap (l.set i ⟨b.c, t⟩) ads := by
  have hil := (List.getElem?_eq_some_iff.1 hi).1
  obtain ⟨d, hd⟩ : ∃ d, ads[i]? = some d := ⟨_, List.getElem?_eq_getElem (by rw [h.len]; exact hil)⟩
  have ho := own_setB (own_setB (own_setB (own_setB h.own (i * 5 + 1) (.int .i64 t.k)) (i * 5 + 2) (.int .i64 t.a)) (i * 5 + 3) (.int .i64 t.t)) (i * 5 + 4) (.int .i64 t.e)
  rw [bC_setT hi hd t] at ho
  have h3 : ∀ (j : Nat) (b2 : RB), (l.set i ⟨b.c, t⟩)[j]? = some b2 → ∃ b3 : RB, l[j]? = some b3 ∧ b3.c = b2.c := by
    intro j b2 h1
    rw [List.getElem?_set] at h1
    split at h1
    · rename_i e
      subst e
      injection h1 with h1
      subst h1
      exact ⟨b, hi, rfl⟩
    · exact ⟨b2, h1, rfl⟩
  refine ⟨by rw [List.length_set]; exact h.len, by rw [List.length_set]; exact ho, fun j b2 d2 h1 h2 => ?_, fun j b2 d2 h1 h2 hz => ?_⟩
  rotate_left
  · obtain ⟨b3, h3, e3⟩ := h3 j b2 h1
    exact h.nz j b3 d2 h3 h2 (by omega)
  obtain ⟨b3, h3, e3⟩ := h3 j b2 h1
  have h4 := h.ins j b3 d2 h3 h2
  have h5 := h.insNe h3 h2
  rw [e3] at h4 h5
  refine k_own_heap h4 (fun q hq => ?_)
  have hne : q ≠ g := fun e => h5 (by rw [hq, e])
  exact k_row_other (k_row_other (k_row_other (k_row_other rfl hne _ _) hne _ _) hne _ _) hne _ _
theorem gb_setT (w : World) (g i : Nat) (t : RT) : w.grownBy ((((w.setCell ⟨g, i * 5 + 1, none⟩ (.int .i64 t.k)).setCell ⟨g, i * 5 + 2, none⟩ (.int .i64 t.a)).setCell ⟨g, i * 5 + 3, none⟩ (.int .i64 t.t)).setCell ⟨g, i * 5 + 4, none⟩ (.int .i64 t.e)) (some g) :=
  gb_trans (gb_trans (gb_trans (k_grown_set _ _ _ _) (k_grown_set _ _ _ _)) (k_grown_set _ _ _ _)) (k_grown_set _ _ _ _)
/-- A block more. -/
theorem BlS.push {w w3 : World} {base g cap g' cap' : Nat} {l : List RB} {ads : List (Option Addr × Nat)} {ob : Obj} (h : BlS w base g cap l ads) (b : RB) (d : Option Addr × Nat) (hz : b.c = 0 → d = (none, 0)) (hb : w.ownsRow base 32 12 (.slice d.1 b.c d.2) b.c (outs b.c))
    (g1 : (w.alloc ob).grownBy w3 (some g)) (ho : w3.ownsRow base 37 5 (.slice (some ⟨g', 0, none⟩) (l.length + 1) cap') (l.length + 1) (bC l ads ++ rbC b d)) : BlS w3 base g' cap' (l ++ [b]) (ads ++ [d]) := by
  have key : ∀ {n : Nat} {v : Value} {xs : List Value}, w.ownsRow base 32 12 v n xs → w3.ownsRow base 32 12 v n xs := by
    intro n v xs hi
    refine k_own_heap hi (fun q hq => ?_)
    have hq2 := (hi.lt q hq).2
    refine (g1.block q (Nat.lt_of_lt_of_le hq2 (Ext.alloc w ob).size) (fun e => ?_)).trans ((Ext.alloc w ob).block q hq2)
    rcases own_twoB hi h.own (by decide) with e1 | e1
    · rw [e1] at hq; cases hq
    · exact e1 (by rw [hq, e]; rfl)
  refine ⟨by simp [h.len], ?_, fun i b2 d2 h1 h2 => ?_, fun i b2 d2 h1 h2 h0 => ?_⟩
  · rw [bC_app _ _ _ _ h.len]
    simpa [bC] using ho
  · by_cases hi : i < l.length
    · rw [List.getElem?_append_left hi] at h1
      rw [List.getElem?_append_left (by rw [h.len]; exact hi)] at h2
      exact key (h.ins i b2 d2 h1 h2)
    · rw [List.getElem?_append_right (by omega)] at h1
      rw [List.getElem?_append_right (by rw [h.len]; omega), h.len] at h2
      obtain ⟨k, hk⟩ : ∃ k, k = i - l.length := ⟨_, rfl⟩
      rw [← hk] at h1 h2
      cases k with
      | zero =>
        simp at h1 h2
        subst h1 h2
        exact key hb
      | succ k => simp at h1
  · by_cases hi : i < l.length
    · rw [List.getElem?_append_left hi] at h1
      rw [List.getElem?_append_left (by rw [h.len]; exact hi)] at h2
      exact h.nz i b2 d2 h1 h2 h0
    · rw [List.getElem?_append_right (by omega)] at h1
      rw [List.getElem?_append_right (by rw [h.len]; omega), h.len] at h2
      obtain ⟨k, hk⟩ : ∃ k, k = i - l.length := ⟨_, rfl⟩
      rw [← hk] at h1 h2
      cases k with
      | zero =>
        simp at h1 h2
        subst h1 h2
        exact hz h0
      | succ k => simp at h1
/-- What is written as it was. -/
theorem own_same {w : World} {g i : Nat} {cs : Array Value} {t : TypeId} (h : w.heap[g]? = some (.cells cs t (0, 0))) {v : Value} (hi : cs[i]? = some v) : w.setCell ⟨g, i, none⟩ v = w := by
  have e : (w.setCell ⟨g, i, none⟩ v).heap = w.heap := by
    apply Array.ext_getElem?
    intro q
    by_cases hq : q = g
    · subst hq
      rw [k_row_set h, h]
      congr 2
      apply Array.ext_getElem?
      intro m
      rw [Array.getElem?_setIfInBounds]
      split
      · rename_i hm
        subst hm
        split
        · exact hi.symm
        · rename_i hm
          rw [Array.getElem?_eq_none (by omega)]
      · rfl
    · exact Below.heap_setCell _ _ _ _ hq
  cases w
  simp only [World.setCell] at e ⊢
  simp only [e]

end Go.Proofs.Ytdnhekgbfhlhoaa
