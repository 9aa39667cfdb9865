/- GraphTrees under way. -/
import Derived.Test.YtmhcecofknemkaaGrTa
import Derived.Test.YtmhcecofknemkaaGrLz
import Derived.Test.YtmhcecofknemkaaGrDg
set_option linter.unusedSimpArgs false
set_option linter.unusedVariables false
set_option maxRecDepth 10000
namespace Go.Proofs.Ytmhcecofknemkaa
open Go.RowKit

def upF (up : Nat → Nat) (k : Nat) : Int := if k = 0 then -1 else (up k : Int)
/-- The lists and who leads to whom, behind those below i. -/
structure TrS (w wr : World) (P U n : Nat) (up : Nat → Nat) (i : Nat) (ls : List (List Nat)) (ads : List (Option Addr × Nat)) : Prop where
  S : RwS w wr P ls ads
  len : ls.length = n
  bU : w.heap.size ≤ U
  rU : Row wr U 3 (zs ((List.range i).map (upF up) ++ List.replicate (n - i) 0))
  nU : U ≠ P
  aU : ∀ (j : Nat) (a : Option Addr × Nat), ads[j]? = some a → obk a.1 ≠ some U
  mem : ∀ a y : Nat, y ∈ ls.getD a [] ↔ (0 < y ∧ y < i ∧ up y = a)
  bd : ∀ (q : Nat) (o : List Nat), ls[q]? = some o → o.length ≤ i
/-- The next one's number is laid down. -/
structure TrM (w wr : World) (P U n : Nat) (up : Nat → Nat) (i : Nat) (ls : List (List Nat)) (ads : List (Option Addr × Nat)) : Prop where
  S : RwS w wr P ls ads
  len : ls.length = n
  bU : w.heap.size ≤ U
  rU : Row wr U 3 (zs ((List.range (i + 1)).map (upF up) ++ List.replicate (n - (i + 1)) 0))
  nU : U ≠ P
  aU : ∀ (j : Nat) (a : Option Addr × Nat), ads[j]? = some a → obk a.1 ≠ some U
  mem : ∀ a y : Nat, y ∈ ls.getD a [] ↔ (0 < y ∧ y < i ∧ up y = a)
  bd : ∀ (q : Nat) (o : List Nat), ls[q]? = some o → o.length ≤ i
theorem TrS.set {w wr : World} {P U n : Nat} {up : Nat → Nat} {i : Nat} {ls : List (List Nat)} {ads : List (Option Addr × Nat)} (h : TrS w wr P U n up i ls ads) (hi : i < n) : TrM w (wr.setCell ⟨U, i, none⟩ (.int .i64 (upF up i))) P U n up i ls ads := by
  refine ⟨?_, h.len, h.bU, ?_, h.nU, h.aU, h.mem, h.bd⟩
  · have hS := h.S
    refine ⟨hS.ext.set (p := ⟨U, i, none⟩) h.bU _, hS.bP, hS.rP.other (Ne.symm h.nU) _ _, hS.len, fun j l a h1 h2 => k_own_heap (hS.own j l a h1 h2) (fun t ht => Below.heap_setCell _ _ _ _ ?_), hS.aP, hS.ap⟩
    rw [obk_eq] at ht
    intro e
    subst e
    exact h.aU j a h2 ht
  · have := h.rU.set i (.int .i64 (upF up i))
    rw [zs_set, lsB_start n (upF up) i hi, lsB_end] at this
    exact this
theorem TrM.push {w wr w3 : World} {P U n : Nat} {up : Nat → Nat} {i : Nat} {ls : List (List Nat)} {ads : List (Option Addr × Nat)} {o : List Nat} {a : Option Addr × Nat} {g' cap' : Nat} (h : TrM w wr P U n up i ls ads) (hi : i < n) (h0 : 0 < i) (ho : ls[up i]? = some o) (ha : ads[up i]? = some a)
    (D : GrF w wr.drew i a.1 o.length a.2 (ns o) w3 g' cap') : TrS w (w3.setCell ⟨P, up i, none⟩ (.slice (some ⟨g', 0, none⟩) (o.length + 1) cap')) P U n up (i + 1) (ls.set (up i) (o ++ [i])) (ads.set (up i) (some ⟨g', 0, none⟩, cap')) := by
  have hS : RwS w wr.drew P ls ads := h.S.on (Ext.drew (Ext.refl _))
  have hU := h.rU.on (Ext.drew (Ext.refl _))
  have hlt : U < wr.drew.heap.size := k_lt hU
  have hq : up i < ls.length := (List.getElem?_eq_some_iff.1 ho).1
  refine ⟨hS.push ho ha i D.gr D.own D.wh, by simp [h.len], h.bU, ?_, h.nU, fun j b hb => ?_, fun b y => ?_, fun q o2 h2 => ?_⟩
  · refine Row.other ?_ h.nU _ _
    exact (hU.on (Ext.alloc _ _)).grown D.gr (fun e => h.aU _ a ha (by rw [obk_eq] at e; exact e.symm))
  · rw [List.getElem?_set] at hb
    split at hb
    · split at hb
      · injection hb with hb
        subst hb
        intro e
        simp only [obk, Value.ownBlock, Option.some.injEq] at e
        subst e
        rcases D.wh with e | e
        · rw [obk_eq] at e; exact h.aU _ a ha e
        · omega
      · cases hb
    · exact h.aU j b hb
  · rw [getD_set _ _ _ _ hq]
    have hoD : ls.getD (up i) [] = o := by rw [List.getD_eq_getElem?_getD, ho]; rfl
    by_cases e : up i = b
    · rw [if_pos e, List.mem_append, List.mem_singleton, ← hoD, h.mem]
      constructor
      · rintro (⟨h1, h2, h3⟩ | h1)
        · exact ⟨h1, by omega, by rw [h3]; exact e⟩
        · subst h1; exact ⟨h0, by omega, e⟩
      · rintro ⟨h1, h2, h3⟩
        by_cases e2 : y = i
        · exact Or.inr e2
        · exact Or.inl ⟨h1, by omega, by rw [h3]; exact e.symm⟩
    · rw [if_neg e, h.mem]
      constructor
      · rintro ⟨h1, h2, h3⟩; exact ⟨h1, by omega, h3⟩
      · rintro ⟨h1, h2, h3⟩
        refine ⟨h1, ?_, h3⟩
        rcases Nat.lt_or_eq_of_le (Nat.le_of_lt_succ h2) with e2 | e2
        · exact e2
        · subst e2; exact absurd h3 e
  · rw [List.getElem?_set] at h2
    by_cases e : up i = q
    · rw [if_pos e] at h2
      have h3 : o ++ [i] = o2 := by
        by_cases e2 : up i < ls.length
        · simpa [e2] using h2
        · exact absurd hq e2
      have := h.bd _ o ho
      rw [← h3]
      simp only [List.length_append, List.length_cons, List.length_nil]
      omega
    · rw [if_neg e] at h2
      have := h.bd q o2 h2
      omega
theorem up_any (l : List Int) : ∃ up : Nat → Nat, ∀ (i : Nat) (x : Int), 0 < i → l[i - 1]? = some x → (bits .and .i64 x 65535).tmod (i : Int) = (up i : Int) ∧ up i < i := by
  refine ⟨fun i => if h : 0 < i then Classical.choose (n_mask (l.getD (i - 1) 0) i h) else 0, fun i x hi hx => ?_⟩
  simp only [dif_pos hi]
  have e : l.getD (i - 1) 0 = x := by rw [List.getD_eq_getElem?_getD, hx]; rfl
  have := Classical.choose_spec (n_mask (l.getD (i - 1) 0) i hi)
  rw [e] at this ⊢
  exact this
/-- Places laid down one by one. -/
structure AtI (w6 wr : World) (Ab n : Nat) (O : List Nat) (i : Nat) (L : List Nat) : Prop where
  ext : Ext w6 wr
  bA : w6.heap.size ≤ Ab
  rA : Row wr Ab 3 (ns L)
  len : L.length = n
  ok : ∀ k x : Nat, k < i → O[k]? = some x → L[x]? = some k
theorem AtI.set {w6 wr : World} {Ab n : Nat} {O : List Nat} {i : Nat} {L : List Nat} (h : AtI w6 wr Ab n O i L) (hO : O.Nodup) {x : Nat} (hx : O[i]? = some x) (hxn : x < n) : AtI w6 (wr.setCell ⟨Ab, x, none⟩ (.int .i64 (i : Int))) Ab n O (i + 1) (L.set x i) := by
  refine ⟨h.ext.set (p := ⟨Ab, x, none⟩) h.bA _, h.bA, by rw [← ns_set]; exact h.rA.set x _, by simp [h.len], fun k y hk hy => ?_⟩
  rw [List.getElem?_set]
  split
  · rename_i e
    subst e
    rw [if_pos (by rw [h.len]; exact hxn), nd_inj hO hy hx]
  · rename_i e
    refine h.ok k y ?_ hy
    rcases Nat.lt_or_eq_of_le (Nat.le_of_lt_succ hk) with f | f
    · exact f
    · subst f
      rw [hx] at hy
      injection hy with hy
      exact absurd hy e
theorem gPred_Dt (g : List (List Int)) (D : Nat) (hf : ∀ l ∈ g, l.length ≤ D) : ∀ l ∈ gPreds g, l.length ≤ D * g.length := by
  have h1 : ∀ (n p : Nat) (l : List Int) (ps : List (List Nat)) (M : Nat), (∀ x ∈ ps, x.length ≤ M) → ∀ x ∈ gPredL n p l ps, x.length ≤ M + l.length := by
    intro n p l
    induction l with
    | nil => intro ps M h x hx; exact h x hx
    | cons y r ih =>
      intro ps M h x hx
      rw [gPredL] at hx
      have := ih _ (M + 1) (fun z hz => ?_) x hx
      · simp only [List.length_cons]; omega
      · split at hz
        · rcases List.mem_or_eq_of_mem_set hz with hz | hz
          · have := h z hz; omega
          · subst hz
            rw [List.length_append]
            simp only [List.length_cons, List.length_nil]
            cases hy : ps[y.toNat]? with
            | none => simp [List.getD, hy]
            | some l0 =>
              have := h l0 (List.mem_of_getElem? hy)
              simp [List.getD, hy]
              omega
        · have := h z hz; omega
  have h2 : ∀ (n : Nat) (g : List (List Int)) (p : Nat) (ps : List (List Nat)) (M : Nat), (∀ l ∈ g, l.length ≤ D) → (∀ x ∈ ps, x.length ≤ M) → ∀ x ∈ gPredF n g p ps, x.length ≤ M + D * g.length := by
    intro n g
    induction g with
    | nil => intro p ps M _ h x hx; exact h x hx
    | cons l r ih =>
      intro p ps M hb h x hx
      rw [gPredF] at hx
      have hl := hb l (List.mem_cons_self ..)
      have := ih (p + 1) _ (M + D) (fun l hl => hb l (List.mem_cons_of_mem _ hl)) (fun z hz => Nat.le_trans (h1 n p l ps M h z hz) (by omega)) x hx
      rw [List.length_cons, Nat.mul_succ]
      omega
  intro l hl
  have := h2 g.length g 0 _ 0 hf (fun x hx => by rw [List.eq_of_mem_replicate hx]; simp) l hl
  omega
end Go.Proofs.Ytmhcecofknemkaa
