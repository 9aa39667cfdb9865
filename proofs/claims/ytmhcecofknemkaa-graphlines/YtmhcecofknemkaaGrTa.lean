/- The drawn region of GraphTrees that makes a list longer, in whatever order its operations come. -/
import Derived.Test.YtmhcecofknemkaaGrRoA
set_option linter.unusedSimpArgs false
set_option linter.unusedVariables false
set_option maxRecDepth 10000
namespace Go.Proofs.Ytmhcecofknemkaa
open Go.RowKit

def ValT (P U n i q : Nat) (aa : Option Addr) (ol ac : Nat) : Nat → Option Value
  | 0 => some (.slice (some ⟨P, 0, none⟩) n n)
  | 1 => some (.slice (some ⟨U, 0, none⟩) n n)
  | 2 => some (.int .i64 (i : Int))
  | 3 => some (.pointer (some ⟨U, i, none⟩))
  | 4 => some (.int .i64 (q : Int))
  | 5 => some (.slice (some ⟨P, 0, none⟩) n n)
  | 6 => some (.slice (some ⟨U, 0, none⟩) n n)
  | 7 => some (.int .i64 (i : Int))
  | 8 => some (.pointer (some ⟨U, i, none⟩))
  | 9 => some (.int .i64 (q : Int))
  | 10 => some (.pointer (some ⟨P, q, none⟩))
  | 11 => some (.slice aa ol ac)
  | 12 => some (.int .i64 (i : Int))
  | 15 => some (.pointer (some ⟨P, q, none⟩))
  | _ => none
def PhT (W0 W1 : World) (P i q : Nat) (aa : Option Addr) (ol ac : Nat) (xs : List Value) (l : Array Bool) (T : Array Value) (w : World) : Prop :=
  (¬ ltA l 13 ∧ ¬ ltA l 14 ∧ ¬ ltA l 16 ∧ w = W1) ∨
  (ltA l 13 ∧ ¬ ltA l 14 ∧ ¬ ltA l 16 ∧ w = W1.alloc (.cells [.int .i64 (i : Int)].toArray 3) ∧ T[51]? = some (.slice (some ⟨W1.heap.size, 0, none⟩) 1 1)) ∨
  (ltA l 11 ∧ ltA l 13 ∧ ltA l 14 ∧ ¬ ltA l 16 ∧ ∃ g' cap', GrF W0 W1 i aa ol ac xs w g' cap' ∧ T[52]? = some (.slice (some ⟨g', 0, none⟩) (ol + 1) cap')) ∨
  (ltA l 11 ∧ ltA l 13 ∧ ltA l 14 ∧ ltA l 16 ∧ ∃ g' cap' w3, GrF W0 W1 i aa ol ac xs w3 g' cap' ∧ w = w3.setCell ⟨P, q, none⟩ (.slice (some ⟨g', 0, none⟩) (ol + 1) cap'))
structure InvT (A : Array Value) (W0 W1 : World) (P U n i q : Nat) (aa : Option Addr) (ol ac : Nat) (xs vu : List Value) (l : Array Bool) (T : Array Value) (w : World) : Prop where
  sz : l.size = 17
  len : T.size = 144
  keep : ∀ t, (t < 38 ∨ 54 ≤ t) → T[t]? = A[t]?
  rU : Row w U 3 vu
  cs : ∀ k v, ValT P U n i q aa ol ac k = some v → ltA l k → T[38 + k]? = some v
  ph : PhT W0 W1 P i q aa ol ac xs l T w
theorem InvT.step {A : Array Value} {W0 W1 : World} {P U n i q : Nat} {aa : Option Addr} {ol ac : Nat} {xs vu : List Value} {l : Array Bool} {T : Array Value} {w w' : World} (h : InvT A W0 W1 P U n i q aa ol ac xs vu l T w) (k : Nat) (hk : k < 16) (v : Value) (he : Row w' U 3 vu)
    (hv : ∀ v', ValT P U n i q aa ol ac k = some v' → v = v') (hp : PhT W0 W1 P i q aa ol ac xs (l.setIfInBounds k true) (T.setIfInBounds (38 + k) v) w') : InvT A W0 W1 P U n i q aa ol ac xs vu (l.setIfInBounds k true) (T.setIfInBounds (38 + k) v) w' := by
  have hlen : T.size = 144 := h.len
  refine ⟨by simp [h.sz], by simp [hlen], fun t ht => by rw [T_other (by omega)]; exact h.keep t ht, he, fun t v' ht hlt => ?_, hp⟩
  by_cases e : k = t
  · subst e
    rw [T_self (by omega), hv v' ht]
  · rw [T_other (by omega)]
    exact h.cs t v' ht (((ltA_set (by rw [h.sz]; omega)).1 hlt).resolve_left (Ne.symm e))
theorem PhT.const {W0 W1 : World} {P i q : Nat} {aa : Option Addr} {ol ac : Nat} {xs : List Value} {l : Array Bool} {T : Array Value} {w : World} (h : PhT W0 W1 P i q aa ol ac xs l T w) (k : Nat) (hz : l.size = 17) (hk : k < 16) (h19 : k ≠ 13) (h20 : k ≠ 14) (v : Value) : PhT W0 W1 P i q aa ol ac xs (l.setIfInBounds k true) (T.setIfInBounds (38 + k) v) w := by
  have up : ∀ t, ltA l t → ltA (l.setIfInBounds k true) t := fun t h => (ltA_set (by omega)).2 (Or.inr h)
  have dn : ∀ t, t ≠ k → ¬ ltA l t → ¬ ltA (l.setIfInBounds k true) t := fun t e h c => h (((ltA_set (by omega)).1 c).resolve_left e)
  rcases h with ⟨a, b, c, d⟩ | ⟨a, b, c, d, e⟩ | ⟨a, b, c, d, g', cap', e, f⟩ | ⟨a, b, c, d, g', cap', w3, e, f⟩
  · exact Or.inl ⟨dn 13 (Ne.symm h19) a, dn 14 (Ne.symm h20) b, dn 16 (by omega) c, d⟩
  · exact Or.inr (Or.inl ⟨up _ a, dn 14 (Ne.symm h20) b, dn 16 (by omega) c, d, by rw [T_other (by omega)]; exact e⟩)
  · exact Or.inr (Or.inr (Or.inl ⟨up _ a, up _ b, up _ c, dn 16 (by omega) d, g', cap', e, by rw [T_other (by omega)]; exact f⟩))
  · exact Or.inr (Or.inr (Or.inr ⟨up _ a, up _ b, up _ c, up _ d, g', cap', w3, e, f⟩))
theorem InvT.const {A : Array Value} {W0 W1 : World} {P U n i q : Nat} {aa : Option Addr} {ol ac : Nat} {xs vu : List Value} {l : Array Bool} {T : Array Value} {w : World} (h : InvT A W0 W1 P U n i q aa ol ac xs vu l T w) (k : Nat) (hk : k < 16) (h19 : k ≠ 13) (h20 : k ≠ 14) (v : Value) (hv : ValT P U n i q aa ol ac k = some v) : InvT A W0 W1 P U n i q aa ol ac xs vu (l.setIfInBounds k true) (T.setIfInBounds (38 + k) v) w :=
  h.step k hk v h.rU (fun v' h' => by rw [hv] at h'; exact Option.some.inj h') (h.ph.const k h.sz hk h19 h20 v)
def PostT (A : Array Value) (W0 W1 : World) (P U n i q : Nat) (aa : Option Addr) (ol ac : Nat) (xs vu : List Value) : Exit → Act → World → Prop
  | .normal, a, w => a.defers = [] ∧ ∃ l, InvT A W0 W1 P U n i q aa ol ac xs vu l a.tmps w ∧ ltA l 16
  | _, _, _ => False

set_option maxHeartbeats 8000000 in
theorem regionT (A : Array Value) (W0 W1 : World) (P U n i q : Nat) (aa : Option Addr) (ol ac : Nat) (xs vu : List Value) (hs : A.size = 144) (t4 : A[4]? = some (.slice (some ⟨P, 0, none⟩) n n)) (t5 : A[5]? = some (.slice (some ⟨U, 0, none⟩) n n)) (t6 : A[6]? = some (.int .i64 (i : Int))) (hE : Ext W0 W1) (hin : i < n) (hqn : q < n) (hn : n ≤ 1000000) (hol : ol ≤ 10000000000000)
    (hRU : Row W1 U 3 vu) (hcu : vu[i]? = some (.int .i64 (q : Int))) (hUP : U ≠ P) (hUa : obk aa ≠ some U) (hP : W0.heap.size ≤ P) (hPa : obk aa ≠ some P) (vs : List Value) (hR : Row W1 P 22 vs) (hc : vs[q]? = some (.slice aa ol ac))
    (hO : ∀ ob, (W1.alloc ob).ownsRow W0.heap.size 3 1 (.slice aa ol ac) ol xs) :
    Code.wp Try.prog ((Try.f3.body.bind (regionAt 9)).getD .skip) (PostT A W0 W1.drew P U n i q aa ol ac xs vu) ⟨A, []⟩ W1 := by
  have hE' : Ext W0 W1.drew := Ext.drew hE
  have hR' : Row W1.drew P 22 vs := hR.on (Ext.drew (Ext.refl _))
  have hRU' : Row W1.drew U 3 vu := hRU.on (Ext.drew (Ext.refl _))
  have hO' : ∀ ob, (W1.drew.alloc ob).ownsRow W0.heap.size 3 1 (.slice aa ol ac) ol xs := fun ob => k_own_heap (hO ob) (fun _ _ => rfl)
  obtain ⟨i0, hi, hz0, hz1, hz2⟩ := k_info
  conv => arg 2; whnf
  refine wp_region_any (by kernel_rfl) (wpAny_inv (fun l a w => a.defers = [] ∧ InvT A W0 W1.drew P U n i q aa ol ac xs vu l a.tmps w) ?_ ?_ _ _ _ _ ?_ ?_)
  · generalize W1.drew = W1 at hE' hR' hRU' hO' ⊢
    clear hE hR hO hRU
    rintro l ⟨T, d⟩ w ⟨hd, hI⟩ k hk
    obtain rfl : d = [] := hd
    have hI : InvT A W0 W1 P U n i q aa ol ac xs vu l T w := hI
    have hnd := not_ltA (ready_open hk)
    have hr := hk
    unfold Region.ready at hr
    rw [List.mem_filter] at hr
    obtain ⟨hr1, hr2⟩ := hr
    have hN : k < 17 := by simpa using hr1
    clear hr1 hk
    have hTs : T.size = 144 := hI.len
    have c1 := hI.rU.cell i hcu
    have u4 : T[4] = .slice (some ⟨P, 0, none⟩) n n := atA (T := T) (i := 4) ((hI.keep 4 (by omega)).trans t4) (by omega)
    have u5 : T[5] = .slice (some ⟨U, 0, none⟩) n n := atA (T := T) (i := 5) ((hI.keep 5 (by omega)).trans t5) (by omega)
    have u6 : T[6] = .int .i64 (i : Int) := atA (T := T) (i := 6) ((hI.keep 6 (by omega)).trans t6) (by omega)
    have hin' : (i : Int) < (n : Int) := by omega
    have hqn' : (q : Int) < (n : Int) := by omega
    rcases (show k = 0 ∨ k = 1 ∨ k = 2 ∨ k = 3 ∨ k = 4 ∨ k = 5 ∨ k = 6 ∨ k = 7 ∨ k = 8 ∨ k = 9 ∨ k = 10 ∨ k = 11 ∨ k = 12 ∨ k = 13 ∨ k = 14 ∨ k = 15 ∨ k = 16 by omega) with rfl | rfl | rfl | rfl | rfl | rfl | rfl | rfl | rfl | rfl | rfl | rfl | rfl | rfl | rfl | rfl | rfl
    · simp [Region.binds] at hr2
      refine wpOp_want rfl (by simp [Region.wanted, yielded, hTs]) ?_
      clear hr2
      go_simp
      exact hI.const 0 (by omega) (by omega) (by omega) _ rfl
    · simp [Region.binds] at hr2
      refine wpOp_want rfl (by simp [Region.wanted, yielded, hTs]) ?_
      clear hr2
      go_simp
      exact hI.const 1 (by omega) (by omega) (by omega) _ rfl
    · simp [Region.binds] at hr2
      refine wpOp_want rfl (by simp [Region.wanted, yielded, hTs]) ?_
      clear hr2
      go_simp
      exact hI.const 2 (by omega) (by omega) (by omega) _ rfl
    · simp [Region.binds] at hr2
      have d1 : ltA l 1 := (by first | exact hr2.2 | exact hr2.2.1 | exact hr2.2.2 | exact hr2.2.2.1 | exact hr2.2.2.2 | exact hr2.2.2.2.1 | exact hr2.2.2.2.2 | exact hr2.1.1 | exact hr2.1.2 | simp_all)
      have u39 : T[39] = .slice (some ⟨U, 0, none⟩) n n := atA (T := T) (i := 39) (hI.cs 1 _ rfl d1) (by omega)
      have d2 : ltA l 2 := (by first | exact hr2.2 | exact hr2.2.1 | exact hr2.2.2 | exact hr2.2.2.1 | exact hr2.2.2.2 | exact hr2.2.2.2.1 | exact hr2.2.2.2.2 | exact hr2.1.1 | exact hr2.1.2 | simp_all)
      have u40 : T[40] = .int .i64 (i : Int) := atA (T := T) (i := 40) (hI.cs 2 _ rfl d2) (by omega)
      refine wpOp_want rfl (by simp [Region.wanted, yielded, hTs]) ?_
      clear hr2
      go_simp
      exact hI.const 3 (by omega) (by omega) (by omega) _ rfl
    · simp [Region.binds] at hr2
      have d3 : ltA l 3 := (by first | exact hr2.2 | exact hr2.2.1 | exact hr2.2.2 | exact hr2.2.2.1 | exact hr2.2.2.2 | exact hr2.2.2.2.1 | exact hr2.2.2.2.2 | exact hr2.1.1 | exact hr2.1.2 | simp_all)
      have u41 : T[41] = .pointer (some ⟨U, i, none⟩) := atA (T := T) (i := 41) (hI.cs 3 _ rfl d3) (by omega)
      refine wpOp_want rfl (by simp [Region.wanted, yielded, hTs]) ?_
      clear hr2
      go_simp
      exact hI.const 4 (by omega) (by omega) (by omega) _ rfl
    · simp [Region.binds] at hr2
      refine wpOp_want rfl (by simp [Region.wanted, yielded, hTs]) ?_
      clear hr2
      go_simp
      exact hI.const 5 (by omega) (by omega) (by omega) _ rfl
    · simp [Region.binds] at hr2
      refine wpOp_want rfl (by simp [Region.wanted, yielded, hTs]) ?_
      clear hr2
      go_simp
      exact hI.const 6 (by omega) (by omega) (by omega) _ rfl
    · simp [Region.binds] at hr2
      refine wpOp_want rfl (by simp [Region.wanted, yielded, hTs]) ?_
      clear hr2
      go_simp
      exact hI.const 7 (by omega) (by omega) (by omega) _ rfl
    · simp [Region.binds] at hr2
      have d6 : ltA l 6 := (by first | exact hr2.2 | exact hr2.2.1 | exact hr2.2.2 | exact hr2.2.2.1 | exact hr2.2.2.2 | exact hr2.2.2.2.1 | exact hr2.2.2.2.2 | exact hr2.1.1 | exact hr2.1.2 | simp_all)
      have u44 : T[44] = .slice (some ⟨U, 0, none⟩) n n := atA (T := T) (i := 44) (hI.cs 6 _ rfl d6) (by omega)
      have d7 : ltA l 7 := (by first | exact hr2.2 | exact hr2.2.1 | exact hr2.2.2 | exact hr2.2.2.1 | exact hr2.2.2.2 | exact hr2.2.2.2.1 | exact hr2.2.2.2.2 | exact hr2.1.1 | exact hr2.1.2 | simp_all)
      have u45 : T[45] = .int .i64 (i : Int) := atA (T := T) (i := 45) (hI.cs 7 _ rfl d7) (by omega)
      refine wpOp_want rfl (by simp [Region.wanted, yielded, hTs]) ?_
      clear hr2
      go_simp
      exact hI.const 8 (by omega) (by omega) (by omega) _ rfl
    · simp [Region.binds] at hr2
      have d8 : ltA l 8 := (by first | exact hr2.2 | exact hr2.2.1 | exact hr2.2.2 | exact hr2.2.2.1 | exact hr2.2.2.2 | exact hr2.2.2.2.1 | exact hr2.2.2.2.2 | exact hr2.1.1 | exact hr2.1.2 | simp_all)
      have u46 : T[46] = .pointer (some ⟨U, i, none⟩) := atA (T := T) (i := 46) (hI.cs 8 _ rfl d8) (by omega)
      refine wpOp_want rfl (by simp [Region.wanted, yielded, hTs]) ?_
      clear hr2
      go_simp
      exact hI.const 9 (by omega) (by omega) (by omega) _ rfl
    · simp [Region.binds] at hr2
      have d5 : ltA l 5 := (by first | exact hr2.2 | exact hr2.2.1 | exact hr2.2.2 | exact hr2.2.2.1 | exact hr2.2.2.2 | exact hr2.2.2.2.1 | exact hr2.2.2.2.2 | exact hr2.1.1 | exact hr2.1.2 | simp_all)
      have u43 : T[43] = .slice (some ⟨P, 0, none⟩) n n := atA (T := T) (i := 43) (hI.cs 5 _ rfl d5) (by omega)
      have d9 : ltA l 9 := (by first | exact hr2.2 | exact hr2.2.1 | exact hr2.2.2 | exact hr2.2.2.1 | exact hr2.2.2.2 | exact hr2.2.2.2.1 | exact hr2.2.2.2.2 | exact hr2.1.1 | exact hr2.1.2 | simp_all)
      have u47 : T[47] = .int .i64 (q : Int) := atA (T := T) (i := 47) (hI.cs 9 _ rfl d9) (by omega)
      refine wpOp_want rfl (by simp [Region.wanted, yielded, hTs]) ?_
      clear hr2
      go_simp
      exact hI.const 10 (by omega) (by omega) (by omega) _ rfl
    · simp [Region.binds] at hr2
      have d10 : ltA l 10 := (by first | exact hr2.2 | exact hr2.2.1 | exact hr2.2.2 | exact hr2.2.2.1 | exact hr2.2.2.2 | exact hr2.2.2.2.1 | exact hr2.2.2.2.2 | exact hr2.1.1 | exact hr2.1.2 | simp_all)
      have u48 : T[48] = .pointer (some ⟨P, q, none⟩) := atA (T := T) (i := 48) (hI.cs 10 _ rfl d10) (by omega)
      have c3 : w.cell? ⟨P, q, none⟩ = some (.slice aa ol ac) := by
        rcases hI.ph with ⟨a, b, c, d⟩ | ⟨a, b, c, d, e⟩ | ⟨a, _⟩ | ⟨a, _⟩
        · subst d; exact hR'.cell q hc
        · subst d; exact (hR'.on (Ext.alloc _ _)).cell q hc
        · exact absurd a hnd
        · exact absurd a hnd
      refine wpOp_want rfl (by simp [Region.wanted, yielded, hTs]) ?_
      clear hr2
      go_simp
      exact hI.const 11 (by omega) (by omega) (by omega) _ rfl
    · simp [Region.binds] at hr2
      refine wpOp_want rfl (by simp [Region.wanted, yielded, hTs]) ?_
      clear hr2
      go_simp
      exact hI.const 12 (by omega) (by omega) (by omega) _ rfl
    · simp [Region.binds] at hr2
      have d12 : ltA l 12 := (by first | exact hr2.2 | exact hr2.2.1 | exact hr2.2.2 | exact hr2.2.2.1 | exact hr2.2.2.2 | exact hr2.2.2.2.1 | exact hr2.2.2.2.2 | exact hr2.1.1 | exact hr2.1.2 | simp_all)
      have u50 : T[50] = .int .i64 (i : Int) := atA (T := T) (i := 50) (hI.cs 12 _ rfl d12) (by omega)
      refine wpOp_want rfl (by simp [Region.wanted, yielded, hTs]) ?_
      clear hr2
      rcases hI.ph with ⟨a, b, c, d⟩ | ⟨a, _⟩ | ⟨_, a, _⟩ | ⟨_, a, _⟩
      · subst d
        go_simp
        refine hI.step 13 (by omega) _ (hRU'.on (Ext.alloc _ _)) (fun v' h' => by cases h') (Or.inr (Or.inl ⟨(ltA_set (by rw [hI.sz]; omega)).2 (Or.inl rfl), fun c' => b (((ltA_set (by rw [hI.sz]; omega)).1 c').resolve_left (by omega)), fun c' => c (((ltA_set (by rw [hI.sz]; omega)).1 c').resolve_left (by omega)), rfl, T_self (by omega)⟩))
      · exact absurd a hnd
      · exact absurd a hnd
      · exact absurd a hnd
    · simp [Region.binds] at hr2
      have d11 : ltA l 11 := (by first | exact hr2.2 | exact hr2.2.1 | exact hr2.2.2 | exact hr2.2.2.1 | exact hr2.2.2.2 | exact hr2.2.2.2.1 | exact hr2.2.2.2.2 | exact hr2.1.1 | exact hr2.1.2 | simp_all)
      have u49 : T[49] = .slice aa ol ac := atA (T := T) (i := 49) (hI.cs 11 _ rfl d11) (by omega)
      have d13 : ltA l 13 := (by first | exact hr2.2 | exact hr2.2.1 | exact hr2.2.2 | exact hr2.2.2.1 | exact hr2.2.2.2 | exact hr2.2.2.2.1 | exact hr2.2.2.2.2 | exact hr2.1.1 | exact hr2.1.2 | simp_all)
      refine wpOp_want rfl (by simp [Region.wanted, yielded, hTs]) ?_
      clear hr2
      rcases hI.ph with ⟨a, b, c, d⟩ | ⟨a, b, c, d, e⟩ | ⟨_, _, a, _⟩ | ⟨_, _, a, _⟩
      · exact absurd d13 a
      · subst d
        have u51 : T[51] = .slice (some ⟨W1.heap.size, 0, none⟩) 1 1 := atA (T := T) (i := 51) e (by omega)
        obtain ⟨g', cap', w3, hrun, r1, r2, r3⟩ := kapp_run (P := Try.prog) (w := W1.alloc (.cells [.int .i64 (i : Int)].toArray 3)) W0.heap.size 22 22 3 i0 (.int .i64 0) 1 8 Try.underlying22 hi hz0 hz1 hz2 rfl (by decide) aa ol ac xs (hO' _) ⟨W1.heap.size, 0, none⟩ 1 1 [.int .i64 (i : Int)] (by decide) rfl (k_new _ _ rfl _ _) (k_one_int _) (by unfold maxLen; omega) (by omega) (Nat.le_trans hE'.size (Ext.alloc _ _).size)
        refine wp_app_xs (.tmp 49) (.tmp 51) 22 rfl _ _ _ (by simp [Act.eval, hTs, u49]) (by simp [Act.eval, hTs, u51]) hrun ?_
        exact ⟨rfl, hI.step 14 (by omega) _ ((hRU'.on (Ext.alloc _ _)).grown r2 (fun e => hUa (by rw [obk_eq] at e; exact e.symm))) (fun v' h' => by cases h') (Or.inr (Or.inr (Or.inl ⟨(ltA_set (by rw [hI.sz]; omega)).2 (Or.inr d11), (ltA_set (by rw [hI.sz]; omega)).2 (Or.inr d13), (ltA_set (by rw [hI.sz]; omega)).2 (Or.inl rfl), fun c' => c (((ltA_set (by rw [hI.sz]; omega)).1 c').resolve_left (by omega)), g', cap', ⟨r2, r1, r3.imp id (fun e => by simpa using e)⟩, T_self (by omega)⟩)))⟩
      · exact absurd a hnd
      · exact absurd a hnd
    · simp [Region.binds] at hr2
      have d0 : ltA l 0 := (by first | exact hr2.2 | exact hr2.2.1 | exact hr2.2.2 | exact hr2.2.2.1 | exact hr2.2.2.2 | exact hr2.2.2.2.1 | exact hr2.2.2.2.2 | exact hr2.1.1 | exact hr2.1.2 | simp_all)
      have u38 : T[38] = .slice (some ⟨P, 0, none⟩) n n := atA (T := T) (i := 38) (hI.cs 0 _ rfl d0) (by omega)
      have d4 : ltA l 4 := (by first | exact hr2.2 | exact hr2.2.1 | exact hr2.2.2 | exact hr2.2.2.1 | exact hr2.2.2.2 | exact hr2.2.2.2.1 | exact hr2.2.2.2.2 | exact hr2.1.1 | exact hr2.1.2 | simp_all)
      have u42 : T[42] = .int .i64 (q : Int) := atA (T := T) (i := 42) (hI.cs 4 _ rfl d4) (by omega)
      refine wpOp_want rfl (by simp [Region.wanted, yielded, hTs]) ?_
      clear hr2
      go_simp
      exact hI.const 15 (by omega) (by omega) (by omega) _ rfl
    · simp [Region.binds] at hr2
      have d15 : ltA l 15 := (by first | exact hr2.2 | exact hr2.2.1 | exact hr2.2.2 | exact hr2.2.2.1 | exact hr2.2.2.2 | exact hr2.2.2.2.1 | exact hr2.2.2.2.2 | exact hr2.1.1 | exact hr2.1.2 | simp_all)
      have u53 : T[53] = .pointer (some ⟨P, q, none⟩) := atA (T := T) (i := 53) (hI.cs 15 _ rfl d15) (by omega)
      have d14 : ltA l 14 := (by first | exact hr2.2 | exact hr2.2.1 | exact hr2.2.2 | exact hr2.2.2.1 | exact hr2.2.2.2 | exact hr2.2.2.2.1 | exact hr2.2.2.2.2 | exact hr2.1.1 | exact hr2.1.2 | simp_all)
      refine wpOp_want rfl (by simp [Region.wanted, yielded, hTs]) ?_
      clear hr2
      rcases hI.ph with ⟨a, b, c, d⟩ | ⟨a, b, c, d, e⟩ | ⟨a, b, c, d, g', cap', e, f⟩ | ⟨_, _, _, a, _⟩
      · exact absurd d14 b
      · exact absurd d14 b
      · have u52 : T[52] = .slice (some ⟨g', 0, none⟩) (ol + 1) cap' := atA (T := T) (i := 52) f (by omega)
        have hR3 : Row w P 22 vs := (hR'.on (Ext.alloc _ _)).grown e.gr (fun e => hPa (by rw [obk_eq] at e; exact e.symm))
        have c3 := hR3.cell q hc
        have f3 := k_rowF hR3 q
        go_simp
        refine ⟨by simp [hI.sz], hI.len, hI.keep, hI.rU.other hUP _ _, fun t v' ht hlt => hI.cs t v' ht (((ltA_set (by rw [hI.sz]; omega)).1 hlt).resolve_left (by rintro rfl; cases ht)), Or.inr (Or.inr (Or.inr ⟨(ltA_set (by rw [hI.sz]; omega)).2 (Or.inr a), (ltA_set (by rw [hI.sz]; omega)).2 (Or.inr b), (ltA_set (by rw [hI.sz]; omega)).2 (Or.inr c), (ltA_set (by rw [hI.sz]; omega)).2 (Or.inl rfl), g', cap', w, e, rfl⟩))⟩
      · exact absurd a hnd
  · rintro l ⟨T, d⟩ w ⟨hd, hI⟩ hz
    have hI : InvT A W0 W1.drew P U n i q aa ol ac xs vu l T w := hI
    have up : ∀ k, k < 17 → (ltA l k → False) → l[k]?.getD true = false := fun k hk hc => by
      have hkl : k < l.size := by rw [hI.sz]; exact hk
      have e : l[k]? = some l[k] := Array.getElem?_eq_getElem hkl
      rw [e]
      cases hb : l[k] with
      | false => rfl
      | true => exact absurd (by unfold ltA; rw [e, hb]; rfl) hc
    have r0 : l[0]?.getD false = true := Classical.byContradiction fun hc => by
      have hb := up 0 (by omega) hc
      refine absurd (?_ : 0 ∈ Region.ready _ _ l) (by rw [hz]; simp)
      unfold Region.ready
      rw [List.mem_filter]
      exact ⟨by simp, by simp [Region.binds, hb]⟩
    have r1 : l[1]?.getD false = true := Classical.byContradiction fun hc => by
      have hb := up 1 (by omega) hc
      refine absurd (?_ : 1 ∈ Region.ready _ _ l) (by rw [hz]; simp)
      unfold Region.ready
      rw [List.mem_filter]
      exact ⟨by simp, by simp [Region.binds, hb, r0]⟩
    have r2 : l[2]?.getD false = true := Classical.byContradiction fun hc => by
      have hb := up 2 (by omega) hc
      refine absurd (?_ : 2 ∈ Region.ready _ _ l) (by rw [hz]; simp)
      unfold Region.ready
      rw [List.mem_filter]
      exact ⟨by simp, by simp [Region.binds, hb, r0, r1]⟩
    have r3 : l[3]?.getD false = true := Classical.byContradiction fun hc => by
      have hb := up 3 (by omega) hc
      refine absurd (?_ : 3 ∈ Region.ready _ _ l) (by rw [hz]; simp)
      unfold Region.ready
      rw [List.mem_filter]
      exact ⟨by simp, by simp [Region.binds, hb, r0, r1, r2]⟩
    have r4 : l[4]?.getD false = true := Classical.byContradiction fun hc => by
      have hb := up 4 (by omega) hc
      refine absurd (?_ : 4 ∈ Region.ready _ _ l) (by rw [hz]; simp)
      unfold Region.ready
      rw [List.mem_filter]
      exact ⟨by simp, by simp [Region.binds, hb, r0, r1, r2, r3]⟩
    have r5 : l[5]?.getD false = true := Classical.byContradiction fun hc => by
      have hb := up 5 (by omega) hc
      refine absurd (?_ : 5 ∈ Region.ready _ _ l) (by rw [hz]; simp)
      unfold Region.ready
      rw [List.mem_filter]
      exact ⟨by simp, by simp [Region.binds, hb, r0, r1, r2, r3, r4]⟩
    have r6 : l[6]?.getD false = true := Classical.byContradiction fun hc => by
      have hb := up 6 (by omega) hc
      refine absurd (?_ : 6 ∈ Region.ready _ _ l) (by rw [hz]; simp)
      unfold Region.ready
      rw [List.mem_filter]
      exact ⟨by simp, by simp [Region.binds, hb, r0, r1, r2, r3, r4, r5]⟩
    have r7 : l[7]?.getD false = true := Classical.byContradiction fun hc => by
      have hb := up 7 (by omega) hc
      refine absurd (?_ : 7 ∈ Region.ready _ _ l) (by rw [hz]; simp)
      unfold Region.ready
      rw [List.mem_filter]
      exact ⟨by simp, by simp [Region.binds, hb, r0, r1, r2, r3, r4, r5, r6]⟩
    have r8 : l[8]?.getD false = true := Classical.byContradiction fun hc => by
      have hb := up 8 (by omega) hc
      refine absurd (?_ : 8 ∈ Region.ready _ _ l) (by rw [hz]; simp)
      unfold Region.ready
      rw [List.mem_filter]
      exact ⟨by simp, by simp [Region.binds, hb, r0, r1, r2, r3, r4, r5, r6, r7]⟩
    have r9 : l[9]?.getD false = true := Classical.byContradiction fun hc => by
      have hb := up 9 (by omega) hc
      refine absurd (?_ : 9 ∈ Region.ready _ _ l) (by rw [hz]; simp)
      unfold Region.ready
      rw [List.mem_filter]
      exact ⟨by simp, by simp [Region.binds, hb, r0, r1, r2, r3, r4, r5, r6, r7, r8]⟩
    have r10 : l[10]?.getD false = true := Classical.byContradiction fun hc => by
      have hb := up 10 (by omega) hc
      refine absurd (?_ : 10 ∈ Region.ready _ _ l) (by rw [hz]; simp)
      unfold Region.ready
      rw [List.mem_filter]
      exact ⟨by simp, by simp [Region.binds, hb, r0, r1, r2, r3, r4, r5, r6, r7, r8, r9]⟩
    have r11 : l[11]?.getD false = true := Classical.byContradiction fun hc => by
      have hb := up 11 (by omega) hc
      refine absurd (?_ : 11 ∈ Region.ready _ _ l) (by rw [hz]; simp)
      unfold Region.ready
      rw [List.mem_filter]
      exact ⟨by simp, by simp [Region.binds, hb, r0, r1, r2, r3, r4, r5, r6, r7, r8, r9, r10]⟩
    have r12 : l[12]?.getD false = true := Classical.byContradiction fun hc => by
      have hb := up 12 (by omega) hc
      refine absurd (?_ : 12 ∈ Region.ready _ _ l) (by rw [hz]; simp)
      unfold Region.ready
      rw [List.mem_filter]
      exact ⟨by simp, by simp [Region.binds, hb, r0, r1, r2, r3, r4, r5, r6, r7, r8, r9, r10, r11]⟩
    have r13 : l[13]?.getD false = true := Classical.byContradiction fun hc => by
      have hb := up 13 (by omega) hc
      refine absurd (?_ : 13 ∈ Region.ready _ _ l) (by rw [hz]; simp)
      unfold Region.ready
      rw [List.mem_filter]
      exact ⟨by simp, by simp [Region.binds, hb, r0, r1, r2, r3, r4, r5, r6, r7, r8, r9, r10, r11, r12]⟩
    have r14 : l[14]?.getD false = true := Classical.byContradiction fun hc => by
      have hb := up 14 (by omega) hc
      refine absurd (?_ : 14 ∈ Region.ready _ _ l) (by rw [hz]; simp)
      unfold Region.ready
      rw [List.mem_filter]
      exact ⟨by simp, by simp [Region.binds, hb, r0, r1, r2, r3, r4, r5, r6, r7, r8, r9, r10, r11, r12, r13]⟩
    have r15 : l[15]?.getD false = true := Classical.byContradiction fun hc => by
      have hb := up 15 (by omega) hc
      refine absurd (?_ : 15 ∈ Region.ready _ _ l) (by rw [hz]; simp)
      unfold Region.ready
      rw [List.mem_filter]
      exact ⟨by simp, by simp [Region.binds, hb, r0, r1, r2, r3, r4, r5, r6, r7, r8, r9, r10, r11, r12, r13, r14]⟩
    have r16 : l[16]?.getD false = true := Classical.byContradiction fun hc => by
      have hb := up 16 (by omega) hc
      refine absurd (?_ : 16 ∈ Region.ready _ _ l) (by rw [hz]; simp)
      unfold Region.ready
      rw [List.mem_filter]
      exact ⟨by simp, by simp [Region.binds, hb, r0, r1, r2, r3, r4, r5, r6, r7, r8, r9, r10, r11, r12, r13, r14, r15]⟩
    exact ⟨hd, l, hI, r16⟩
  · exact Nat.le_refl 17
  · have no : ∀ k, ¬ ltA (Array.replicate 17 false) k := fun k h => by
      unfold ltA at h
      rw [Array.getElem?_replicate] at h
      split at h <;> cases h
    exact ⟨rfl, by simp, hs, fun _ _ => rfl, hRU', fun k _ _ h => absurd h (no k), Or.inl ⟨no _, no _, no _, rfl⟩⟩

theorem trees_abs {P' : Program} {c : Code} {Q : Exit → Act → World → Prop} {A : Array Value} {W0 W1 : World} {P U n i q : Nat} {aa : Option Addr} {ol ac : Nat} {xs vu : List Value} (hs : A.size = 144) (h : ∀ B, B = A → Code.wp P' c (PostT B W0 W1.drew P U n i q aa ol ac xs vu) ⟨B, []⟩ W1)
    (hq : ∀ (u : Nat → Value) (w3 : World) (g' cap' : Nat), GrF W0 W1.drew i aa ol ac xs w3 g' cap' → Q .normal ⟨setAll 38 A u 16, []⟩ (w3.setCell ⟨P, q, none⟩ (.slice (some ⟨g', 0, none⟩) (ol + 1) cap'))) : Code.wp P' c Q ⟨A, []⟩ W1 := by
  refine Code.wp_mono ?_ (h A rfl)
  intro e a w' hp
  cases e with
  | normal =>
    obtain ⟨hd, l, hI, hall⟩ := hp
    obtain ⟨T, d⟩ := a
    obtain rfl : d = [] := hd
    have hT : T.size = 144 := hI.len
    have e : T = setAll 38 A (fun k => T[38 + k]?.getD undef) 16 := by
      apply Array.ext_getElem?
      intro t
      rw [setAll_at]
      by_cases ht : 38 ≤ t ∧ t < 38 + 16 ∧ t < A.size
      · rw [if_pos ht]
        show _ = some (T[38 + (t - 38)]?.getD undef)
        rw [show 38 + (t - 38) = t by omega, Array.getElem?_eq_getElem (by omega)]
        rfl
      · rw [if_neg ht]
        exact hI.keep t (by omega)
    rcases hI.ph with ⟨a, b, c, d⟩ | ⟨a, b, c, d, e⟩ | ⟨a, b, c, d, _⟩ | ⟨_, _, _, _, g', cap', w3, f1, f2⟩
    · exact absurd hall c
    · exact absurd hall c
    · exact absurd hall d
    · have := hq (fun k => T[38 + k]?.getD undef) w3 g' cap' f1
      rw [← e] at this
      rw [f2]
      exact this
  | _ => exact hp.elim

end Go.Proofs.Ytmhcecofknemkaa
