/- Where a way of blocks that only lead on comes to: last, final. -/
import Derived.Test.YtdnhekgbfhlhoaaThT
set_option linter.unusedSimpArgs false
set_option linter.unusedVariables false
set_option maxRecDepth 10000
namespace Go.Proofs.Ytdnhekgbfhlhoaa
open Go.RowKit

/-- Of a place that no way leads through just now: where its way ends. -/
def lastP (n : Nat) (fin : List Int) (z : Int) : Int := if hasP n z then (match fin[z.toNat]? with
  | some x => if x = -2 then z else x
  | none => 0) else -1
set_option maxHeartbeats 1000000 in
theorem last_w (B N : Nat) (ga : Option Addr) (gc n : Nat) (fin : List Int) (z : Int) (wa : Option Addr) (wn wc : Nat) (w : World) (hn : n ≤ 1000000) (hT : TrS w B N ga gc n fin) (h3 : fin[z.toNat]? ≠ some (-3)) :
    Calls Try.prog 40 #[.pointer (some ⟨B, 0, none⟩), .int .i64 z, .slice wa wn wc] w fun e w' => e = .returned (.int .i64 (lastP n fin z)) ∧ w' = w := by
  have HH := hide (fun (z : Int) (W : World) => hasB_w ga n gc z W hn)
  obtain ⟨b0, b1, fN, cN⟩ := hT.at
  unfold lastP
  by_cases hz : 0 ≤ z ∧ z < n
  · obtain ⟨i, rfl⟩ : ∃ i : Nat, z = i := ⟨z.toNat, by omega⟩
    have hil : i < n := by omega
    obtain ⟨x, hx⟩ : ∃ x, fin[i]? = some x := ⟨_, List.getElem?_eq_getElem (by rw [hT.len]; exact hil)⟩
    have c := cN i x hx
    have hh : hasP n (i : Int) = true := decide_eq_true hz
    have HH2 := hide (fun W => hh ▸ unhide HH (i : Int) W)
    rw [show ((i : Int)).toNat = i by omega, hx] at h3 ⊢
    rw [hh, if_pos rfl]
    simp only
    have h3 : ¬ x = -3 := fun e => h3 (by rw [e])
    have e3 : (x == -3) = false := by simp [h3]
    have hiz : (i : Int) < (n : Int) := by omega
    clear hx cN hh HH hT
    by_cases hx2 : x = -2
    · subst hx2
      rw [if_pos rfl]
      go_enter Try.func40, Try.ntmps40
      go_wp2_with (go_at_call 50; refine Calls.mono (unhide HH2 _) ?_; rintro e w1 ⟨rfl, hw⟩; obtain rfl := hw.symm; clear hw)
      go_ret
      exact ⟨rfl, rfl⟩
    · rw [if_neg hx2]
      have e2 : (x == -2) = false := by simp [hx2]
      go_enter Try.func40, Try.ntmps40
      go_wp2_with (go_at_call 50; refine Calls.mono (unhide HH2 _) ?_; rintro e w1 ⟨rfl, hw⟩; obtain rfl := hw.symm; clear hw)
      go_ret
      exact ⟨rfl, rfl⟩
  · have hh : hasP n z = false := decide_eq_false hz
    have HH2 := hide (fun W => hh ▸ unhide HH z W)
    rw [hh, if_neg (by decide)]
    clear hh HH hT cN fN hz h3
    go_enter Try.func40, Try.ntmps40
    go_wp2_with (go_at_call 50; refine Calls.mono (unhide HH2 _) ?_; rintro e w1 ⟨rfl, hw⟩; obtain rfl := hw.symm; clear hw)
    go_ret
    exact ⟨rfl, rfl⟩

/-- F tells where each block's way ends, and each leads on to a later one. -/
structure Fwd (l : List RB) (F : Nat → Nat) : Prop where
  step : ∀ (i : Nat) (b : RB), l[i]? = some b → lead b = true → ∃ j : Nat, b.t.t = (j : Int) ∧ i < j ∧ j < l.length ∧ F i = F j
  stay : ∀ (i : Nat) (b : RB), l[i]? = some b → lead b = false → F i = i
def fz (n : Nat) (F : Nat → Nat) (z : Int) : Int := if hasP n z then (F z.toNat : Int) else -1
/-- What is known of the Finals, while the blocks of way are passed. -/
def FinI (F : Nat → Nat) (way : List Nat) (fin : List Int) : Prop := ∀ (i : Nat) (x : Int), fin[i]? = some x → x = -2 ∨ x = (F i : Int) ∨ (x = -3 ∧ i ∈ way)
structure FiS (w0 w : World) (B N : Nat) (ga : Option Addr) (gc : Nat) (l : List RB) (F : Nat → Nat) (z0 z : Int) (way : List Nat) (wa : Option Addr) (wc : Nat) (fin : List Int) : Prop where
  tr : TrS w B N ga gc l.length fin
  gb : w0.grownBy w (some N)
  inv : FinI F way fin
  wl : ∀ p ∈ way, (p : Int) < z ∧ p < l.length
  wn : way.length ≤ z.toNat ∧ (way.length = 0 ∨ z < l.length)
  eqF : ∀ p ∈ way, (F p : Int) = fz l.length F z
  goal : fz l.length F z = fz l.length F z0
  own : w.ownsRow w0.heap.size 3 1 (.slice wa way.length wc) way.length (ns way)
theorem FiS.ok {w0 w : World} {B N : Nat} {ga : Option Addr} {gc : Nat} {l : List RB} {F : Nat → Nat} {z0 z : Int} {way : List Nat} {wa : Option Addr} {wc : Nat} {fin : List Int} (h : FiS w0 w B N ga gc l F z0 z way wa wc fin) : fin[z.toNat]? ≠ some (-3) := by
  intro e
  rcases h.inv _ _ e with e1 | e1 | ⟨_, e1⟩
  · omega
  · omega
  · have := (h.wl _ e1).1
    omega
theorem FiS.last {w0 w : World} {B N : Nat} {ga : Option Addr} {gc : Nat} {l : List RB} {F : Nat → Nat} {z0 z : Int} {way : List Nat} {wa : Option Addr} {wc : Nat} {fin : List Int} (h : FiS w0 w B N ga gc l F z0 z way wa wc fin) (hF : Fwd l F)
    (hf : (match l[z.toNat]?, fin[z.toNat]? with
      | some b, some x => hasP l.length z && (x == -2 && lead b)
      | _, _ => false) = false) : lastP l.length fin z = fz l.length F z0 := by
  rw [← h.goal]
  unfold lastP fz
  cases hh : hasP l.length z with
  | false => rfl
  | true =>
    rw [if_pos rfl, if_pos rfl]
    have hz : 0 ≤ z ∧ z < l.length := of_decide_eq_true hh
    obtain ⟨i, rfl⟩ : ∃ i : Nat, z = i := ⟨z.toNat, by omega⟩
    have hil : i < l.length := by omega
    rw [show ((i : Int)).toNat = i by omega] at hf ⊢
    obtain ⟨b, hb⟩ : ∃ b, l[i]? = some b := ⟨_, List.getElem?_eq_getElem hil⟩
    obtain ⟨x, hx⟩ : ∃ x, fin[i]? = some x := ⟨_, List.getElem?_eq_getElem (by rw [h.tr.len]; exact hil)⟩
    rw [hb, hx, hh] at hf
    rw [hx]
    simp only [Bool.true_and] at hf ⊢
    rcases h.inv i x hx with rfl | rfl | ⟨rfl, e⟩
    · have : lead b = false := by simpa using hf
      rw [if_pos rfl, hF.stay i b hb this]
    · rw [if_neg (by omega)]
    · have := (h.wl i e).1
      omega
theorem FiS.end {w0 w : World} {B N : Nat} {ga : Option Addr} {gc : Nat} {l : List RB} {F : Nat → Nat} {z0 z : Int} {way : List Nat} {wa : Option Addr} {wc : Nat} {fin : List Int} (h : FiS w0 w B N ga gc l F z0 z way wa wc fin) {j : Nat} (hj : j < way.length) {fin2 : List Int} (hi : FinI F (way.drop j) fin2) {p : Nat} (hp : way[j]? = some p) : FinI F (way.drop (j + 1)) (fin2.set p (fz l.length F z0)) := by
  intro i x hx
  rw [List.getElem?_set] at hx
  split at hx
  · rename_i e
    subst e
    split at hx
    · injection hx with hx
      right; left
      rw [← hx, ← h.goal]
      exact (h.eqF p (List.mem_of_getElem? hp)).symm
    · cases hx
  · rename_i e
    rcases hi i x hx with h1 | h1 | ⟨h1, h2⟩
    · exact Or.inl h1
    · exact Or.inr (Or.inl h1)
    · refine Or.inr (Or.inr ⟨h1, ?_⟩)
      rw [List.drop_eq_getElem_cons hj] at h2
      rcases List.mem_cons.1 h2 with h3 | h3
      · rw [List.getElem?_eq_getElem hj] at hp
        injection hp with hp
        exact absurd (hp.symm.trans h3.symm) e
      · exact h3
theorem RepB.cellT {w : World} {F : Nat → Prop} {g o : Nat} {l : List RB} {ads : List (Option Addr × Nat)} (hr : RepB w F (some ⟨g, o, none⟩) l ads) {i : Nat} {b : RB} (h : l[i]? = some b) : w.cell? ⟨g, o + i * 5 + 3, none⟩ = some (.int .i64 b.t.t) := by
  obtain ⟨g2, o2, d, e, _, _, _, _, _, c3, _⟩ := hr.at h
  injection e with e
  injection e with e1 e2
  subst e1 e2
  exact c3
/-- One step of the way. -/
theorem FiS.step {w0 w w1 w3 : World} {B N : Nat} {ga : Option Addr} {gc : Nat} {l : List RB} {F : Nat → Nat} {z0 : Int} {i : Nat} {way : List Nat} {wa : Option Addr} {wc : Nat} {fin : List Int} (h : FiS w0 w B N ga gc l F z0 (i : Int) way wa wc fin) (hN : N < w0.heap.size) (x1 : Ext w w1) {ob : Obj} {g' cap' j : Nat} (hil : i < l.length) (hij : i < j) (hj : j < l.length) (hF : F i = F j)
    (g1 : ((w1.setCell ⟨N, i, none⟩ (.int .i64 (-3))).alloc ob).grownBy w3 (Value.slice wa way.length wc).ownBlock)
    (ho : w3.ownsRow w0.heap.size 3 1 (.slice (some ⟨g', 0, none⟩) (way.length + 1) cap') (way.length + 1) (ns way ++ [.int .i64 (i : Int)])) :
    FiS w0 w3 B N ga gc l F z0 (j : Int) (way ++ [i]) (some ⟨g', 0, none⟩) cap' (fin.set i (-3)) := by
  have hb : ∀ q, (Value.slice wa way.length wc).ownBlock = some q → w0.heap.size ≤ q := fun q hq => (h.own.lt q hq).1
  have t1 := (h.tr.on x1).set i (-3)
  have g2 : w0.grownBy ((w1.setCell ⟨N, i, none⟩ (.int .i64 (-3))).alloc ob) (some N) := gb_trans (gb_trans (gb_trans h.gb (gb_ext x1 _)) (k_grown_set _ _ _ _)) (gb_ext (Ext.alloc _ _) _)
  have g3 : w0.grownBy w3 (some N) := by
    refine ⟨g1.os.trans g2.os, g1.tape.trans g2.tape, g1.output.trans g2.output, Nat.le_trans g2.size g1.size, fun q hq hn => (g1.block q (Nat.lt_of_lt_of_le hq g2.size) (fun e => ?_)).trans (g2.block q hq hn)⟩
    have := hb q e.symm
    omega
  have hfz : fz l.length F (i : Int) = fz l.length F (j : Int) := by
    unfold fz hasP
    rw [if_pos (decide_eq_true (by omega)), if_pos (decide_eq_true (by omega))]
    simp only [Int.toNat_natCast]
    rw [hF]
  have e3 : ∀ (q : Nat) (x : Obj), q = B ∨ q = N → (w1.setCell ⟨N, i, none⟩ (.int .i64 (-3))).heap[q]? = some x → w3.heap[q]? = some x := by
    intro q x hq hx
    have hx2 := (Ext.alloc _ ob).row hx
    have hn : some q ≠ (Value.slice wa way.length wc).ownBlock := by
      intro e
      rcases hq with rfl | rfl
      · obtain ⟨_, ⟨e1, _⟩ | ⟨g, cap, cur, e1, _, hg, _⟩⟩ := h.own
        · rw [e1] at e; cases e
        · rw [e1] at e
          simp only [Value.ownBlock, Option.some.injEq] at e
          subst e
          have h2 := h.tr.box
          unfold Row at h2
          rw [h2] at hg
          injection hg with hg
          injection hg with _ hg _
          exact absurd hg (by decide)
      · have := hb q e.symm
        omega
    exact (g1.block q (k_lt hx2) hn).trans hx2
  refine ⟨⟨e3 B _ (Or.inl rfl) t1.box, e3 N _ (Or.inr rfl) t1.row, t1.len⟩, g3, fun m x hx => ?_, fun p hp => ?_, by have := h.wn; rw [List.length_append, List.length_singleton]; exact ⟨by omega, Or.inr (by omega)⟩, fun p hp => ?_, by rw [← hfz]; exact h.goal, ?_⟩
  · rw [List.getElem?_set] at hx
    split at hx
    · rename_i e
      subst e
      split at hx
      · injection hx with hx
        exact Or.inr (Or.inr ⟨hx.symm, by simp⟩)
      · cases hx
    · rcases h.inv m x hx with h1 | h1 | ⟨h1, h2⟩
      · exact Or.inl h1
      · exact Or.inr (Or.inl h1)
      · exact Or.inr (Or.inr ⟨h1, List.mem_append_left _ h2⟩)
  · rcases List.mem_append.1 hp with hp | hp
    · have := h.wl p hp
      omega
    · obtain rfl := List.mem_singleton.1 hp
      omega
  · rcases List.mem_append.1 hp with hp | hp
    · rw [← hfz]; exact h.eqF p hp
    · obtain rfl := List.mem_singleton.1 hp
      unfold fz hasP
      rw [if_pos (decide_eq_true (by omega))]
      simp only [Int.toNat_natCast]
      rw [hF]
  · simpa [ns] using ho

end Go.Proofs.Ytdnhekgbfhlhoaa
