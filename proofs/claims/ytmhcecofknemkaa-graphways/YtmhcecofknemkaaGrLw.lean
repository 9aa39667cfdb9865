/- The document's Order: its region that draws its order; Order. -/
import Derived.Test.YtmhcecofknemkaaGrLv
import Derived.Test.YtmhcecofknemkaaGrAx
set_option linter.unusedSimpArgs false
set_option linter.unusedVariables false
set_option maxRecDepth 10000
namespace Go.Proofs.Ytmhcecofknemkaa
open Go.RowKit

/-- A row of truths is none of a graph's blocks. -/
theorem repI_apart {w : World} {a : Option Addr} {l : List Int} (h : RepI w (In w) a l) {On : Nat} {on' : List Bool} (hr : Row w On 4 (bsV on')) : RepI w (NotB On w) a l := by
  rcases h with h | ⟨b, o, rfl, hf, hc⟩
  · exact Or.inl h
  · cases l with
    | nil => exact Or.inl rfl
    | cons x r =>
      refine Or.inr ⟨b, o, rfl, ⟨hf, ?_⟩, hc⟩
      rintro rfl
      have h1 := hc 0 x rfl
      rw [cell_of_row _ _ _ _ _ (0, 0) hr] at h1
      simp at h1
theorem repG_apart {w : World} {a : Option Addr} {g : List (List Int)} (h : RepG w (In w) a g) {On : Nat} {on' : List Bool} (hr : Row w On 4 (bsV on')) : RepG w (NotB On w) a g := by
  rcases h with h | ⟨b, o, rfl, hf, hc⟩
  · exact Or.inl h
  · cases g with
    | nil => exact Or.inl rfl
    | cons x r =>
      refine Or.inr ⟨b, o, rfl, ⟨hf, ?_⟩, fun j l hl => ?_⟩
      · rintro rfl
        obtain ⟨ia, ic, h1, _⟩ := hc 0 x rfl
        rw [cell_of_row _ _ _ _ _ (0, 0) hr] at h1
        simp at h1
      · obtain ⟨ia, ic, h1, h2⟩ := hc j l hl
        exact ⟨ia, ic, h1, repI_apart h2 hr⟩

def PhOrd (ga : Option Addr) (n gc : Nat) (N : List (List Nat)) (o : List Nat) (W : World) : Nat → Value → World → Prop
  | 0, v, w => v = .slice ga n gc
  | 1, v, w => ∃ P, v = slV P n ∧ RepG w (In w) (some ⟨P, 0, none⟩) (gUpG N)
  | 2, v, w => v = .slice ga n gc
  | 3, v, w => v = .int .i64 (n : Int)
  | 4, v, w => ∃ On, v = slV On n ∧ W.heap.size ≤ On ∧ Row w On 4 (bsV (List.replicate n false))
  | 5, v, w => ∃ ra rc, v = .slice ra o.length rc ∧ RepI w (In w) ra (zN o)
  | 6, v, w => ∃ ra rc, v = .slice ra o.length rc ∧ RepI w (In w) ra (zN o)
  | _, _, _ => True
def DpOrd : Nat → List Nat
  | 0 => []
  | 1 => [0]
  | 2 => []
  | 3 => [2]
  | 4 => [3]
  | 5 => [1, 4]
  | 6 => [5]
  | _ => []
def XOrd (ga : Option Addr) (n gc : Nat) (N : List (List Nat)) (o : List Nat) (W : World) : XSp := ⟨[6, 7, 8, 9, 10, 11, 2], 12, PhOrd ga n gc N o W, DpOrd, 5⟩
theorem XGOrd (ga : Option Addr) (n gc : Nat) (N : List (List Nat)) (o : List Nat) (W : World) : XGood (XOrd ga n gc N o W) := by
  refine ⟨by show List.Nodup [6, 7, 8, 9, 10, 11, 2]; decide, by show ∀ d ∈ [6, 7, 8, 9, 10, 11, 2], d < 12; decide, ?_⟩
  intro i v w w' he h
  have h : PhOrd ga n gc N o W i v w := h
  show PhOrd ga n gc N o W i v w'
  match i, h with
  | 0, h => exact h
  | 1, h => obtain ⟨P, h1, h2⟩ := h; exact ⟨P, h1, h2.ext he⟩
  | 2, h => exact h
  | 3, h => exact h
  | 4, h => obtain ⟨P, h1, h2, h3⟩ := h; exact ⟨P, h1, h2, h3.on he⟩
  | 5, h => obtain ⟨P, P2, h1, h2⟩ := h; exact ⟨P, P2, h1, h2.ext he⟩
  | 6, h => obtain ⟨P, P2, h1, h2⟩ := h; exact ⟨P, P2, h1, h2.ext he⟩
  | _ + 7, _ => trivial

theorem entOrdNorm (v0 : Value) (W : World) : (callFunc 38 #[v0]).run Try.prog W = .ok (.enter 38 #[v0]) W := by kernel_rfl
theorem entOrdleave (v0 v1 v2 v3 : Value) (W : World) : (callFunc 40 #[v0, v1, v2, v3]).run Try.prog W = .ok (.enter 40 #[v0, v1, v2, v3]) W := by kernel_rfl
set_option maxHeartbeats 8000000 in
theorem regionOrd (A : Array Value) (ga : Option Addr) (n gc : Nat) (N : List (List Nat)) (o : List Nat) (W : World) (hs : A.size = 12) (t0 : A[0]? = some (.slice ga n gc)) (hn : n ≤ 1000000)
    (m2 : ∀ w : World, (Instr.makeSlice 35 (.int .i64 (n : Int)) (.int .i64 (n : Int))).run Try.prog w = .ok (slV w.heap.size n) (w.alloc (.cells (bsV (List.replicate n false)).toArray 4)))
    (HN : Hd (∀ w : World, Ext W w → Calls Try.prog 38 #[.slice ga n gc] w fun e w' => ∃ P, e = .returned (slV P n) ∧ Ext w w' ∧ RepG w' (In w') (some ⟨P, 0, none⟩) (gUpG N)))
    (HL : Hd (∀ (P On : Nat) (w : World), Ext W w → RepG w (In w) (some ⟨P, 0, none⟩) (gUpG N) → W.heap.size ≤ On → Row w On 4 (bsV (List.replicate n false)) → Calls Try.prog 40 #[slV P n, .int .i64 0, slV On n, .slice none 0 0] w fun e w' => ∃ ra rc, e = .returned (.slice ra o.length rc) ∧ Ext W w' ∧ RepI w' (In w') ra (zN o))) :
    Code.wp Try.prog ((Try.f22.body.bind (regionAt 3)).getD .skip) (XPost (XOrd ga n gc N o W) A W) ⟨A, []⟩ W := by
  conv => arg 2; whnf
  refine wp_region_any (by kernel_rfl) (wpAny_inv (fun l a w => a.defers = [] ∧ XInv (XOrd ga n gc N o W) A W l a.tmps w) ?_ ?_ _ _ _ _ ?_ ?_)
  · rintro l ⟨T, d⟩ w ⟨hd, hI⟩ k hk
    obtain rfl : d = [] := hd
    have hI : XInv (XOrd ga n gc N o W) A W l T w := hI
    have G := XGOrd ga n gc N o W
    have hnd := not_ltA (ready_open hk)
    have hr := hk
    unfold Region.ready at hr
    rw [List.mem_filter] at hr
    obtain ⟨hr1, hr2⟩ := hr
    have hN : k < 7 := by simpa using hr1
    clear hr1 hk
    have hTs : T.size = 12 := hI.len
    have u0 : T[0] = .slice ga n gc := atA (T := T) (i := 0) ((hI.keep 0 (by show 0 ∉ [6, 7, 8, 9, 10, 11, 2]; decide)).trans t0) (by omega)
    rcases (show k = 0 ∨ k = 1 ∨ k = 2 ∨ k = 3 ∨ k = 4 ∨ k = 5 ∨ k = 6 by omega) with rfl | rfl | rfl | rfl | rfl | rfl | rfl
    · simp [Region.binds] at hr2
      have hnl : ¬ ltA l 5 := fun c => hnd (hI.dn 1 (hI.dn 5 (c) 1 (by show 1 ∈ [1, 4]; decide)) 0 (by show 0 ∈ [0]; decide))
      refine wpOp_want rfl (by simp [Region.wanted, yielded, hTs]) ?_
      clear hr2
      go_simp
      exact hI.step G 0 6 rfl (fun j hj => by cases hj) _ (Ext.refl _) rfl
    · simp [Region.binds] at hr2
      have d0 : ltA l 0 := (by first | exact hr2.2 | exact hr2.2.1 | exact hr2.2.2 | exact hr2.2.2.1 | exact hr2.2.2.2 | exact hr2.2.2.2.1 | exact hr2.2.2.2.2 | exact hr2.1.1 | exact hr2.1.2 | simp_all)
      have hnl : ¬ ltA l 5 := fun c => hnd (hI.dn 5 (c) 1 (by show 1 ∈ [1, 4]; decide))
      obtain ⟨x0, y0, z0⟩ := hI.val 0 6 rfl d0 (fun c => hnl c.2)
      obtain rfl : x0 = .slice ga n gc := z0
      have u6 : T[6] = .slice ga n gc := atA (T := T) (i := 6) y0 (by omega)
      refine wpOp_want rfl (by simp [Region.wanted, yielded, hTs]) ?_
      clear hr2
      refine wp_call_xs 38 #[.tmp 6] #[23] rfl #[.slice ga n gc] (by simp [Act.eval, hTs, u6]) (entOrdNorm _ _) (Calls.mono (unhide HN w hI.ext) ?_)
      rintro e w1 ⟨P, rfl, hx, hP⟩
      exact ⟨_, rfl, rfl, hI.step G 1 7 rfl (by show ∀ j ∈ [0], ltA l j; simp only [List.mem_cons, List.not_mem_nil, or_false, forall_eq_or_imp, forall_eq]; exact d0) _ hx ⟨P, rfl, hP⟩⟩
    · simp [Region.binds] at hr2
      have hnl : ¬ ltA l 5 := fun c => hnd (hI.dn 3 (hI.dn 4 (hI.dn 5 (c) 4 (by show 4 ∈ [1, 4]; decide)) 3 (by show 3 ∈ [3]; decide)) 2 (by show 2 ∈ [2]; decide))
      refine wpOp_want rfl (by simp [Region.wanted, yielded, hTs]) ?_
      clear hr2
      go_simp
      exact hI.step G 2 8 rfl (fun j hj => by cases hj) _ (Ext.refl _) rfl
    · simp [Region.binds] at hr2
      have d2 : ltA l 2 := (by first | exact hr2.2 | exact hr2.2.1 | exact hr2.2.2 | exact hr2.2.2.1 | exact hr2.2.2.2 | exact hr2.2.2.2.1 | exact hr2.2.2.2.2 | exact hr2.1.1 | exact hr2.1.2 | simp_all)
      have hnl : ¬ ltA l 5 := fun c => hnd (hI.dn 4 (hI.dn 5 (c) 4 (by show 4 ∈ [1, 4]; decide)) 3 (by show 3 ∈ [3]; decide))
      obtain ⟨x2, y2, z2⟩ := hI.val 2 8 rfl d2 (fun c => hnl c.2)
      obtain rfl : x2 = .slice ga n gc := z2
      have u8 : T[8] = .slice ga n gc := atA (T := T) (i := 8) y2 (by omega)
      refine wpOp_want rfl (by simp [Region.wanted, yielded, hTs]) ?_
      clear hr2
      go_simp
      exact hI.step G 3 9 rfl (by show ∀ j ∈ [2], ltA l j; simp only [List.mem_cons, List.not_mem_nil, or_false, forall_eq_or_imp, forall_eq]; exact d2) _ (Ext.refl _) rfl
    · simp [Region.binds] at hr2
      have d3 : ltA l 3 := (by first | exact hr2.2 | exact hr2.2.1 | exact hr2.2.2 | exact hr2.2.2.1 | exact hr2.2.2.2 | exact hr2.2.2.2.1 | exact hr2.2.2.2.2 | exact hr2.1.1 | exact hr2.1.2 | simp_all)
      have hnl : ¬ ltA l 5 := fun c => hnd (hI.dn 5 (c) 4 (by show 4 ∈ [1, 4]; decide))
      obtain ⟨x3, y3, z3⟩ := hI.val 3 9 rfl d3 (fun c => hnl c.2)
      obtain rfl : x3 = .int .i64 (n : Int) := z3
      have u9 : T[9] = .int .i64 (n : Int) := atA (T := T) (i := 9) y3 (by omega)
      refine wpOp_want rfl (by simp [Region.wanted, yielded, hTs]) ?_
      clear hr2
      have hm := m2 w
      have hW := hI.ext.size
      go_simp
      exact hI.step G 4 10 rfl (by show ∀ j ∈ [3], ltA l j; simp only [List.mem_cons, List.not_mem_nil, or_false, forall_eq_or_imp, forall_eq]; exact d3) _ (Ext.alloc _ _) ⟨w.heap.size, rfl, hW, by have := Row.new w (bsV (List.replicate n false)) 4; simpa [bsV] using this⟩
    · simp [Region.binds] at hr2
      have d1 : ltA l 1 := (by first | exact hr2.2 | exact hr2.2.1 | exact hr2.2.2 | exact hr2.2.2.1 | exact hr2.2.2.2 | exact hr2.2.2.2.1 | exact hr2.2.2.2.2 | exact hr2.1.1 | exact hr2.1.2 | simp_all)
      have d4 : ltA l 4 := (by first | exact hr2.2 | exact hr2.2.1 | exact hr2.2.2 | exact hr2.2.2.1 | exact hr2.2.2.2 | exact hr2.2.2.2.1 | exact hr2.2.2.2.2 | exact hr2.1.1 | exact hr2.1.2 | simp_all)
      have hnl : ¬ ltA l 5 := hnd
      obtain ⟨x1, y1, z1⟩ := hI.val 1 7 rfl d1 (fun c => hnl c.2)
      obtain ⟨P, rfl, hP⟩ : (∃ P, x1 = slV P n ∧ RepG w (In w) (some ⟨P, 0, none⟩) (gUpG N)) := z1
      have u7 : T[7] = slV P n := atA (T := T) (i := 7) y1 (by omega)
      obtain ⟨x4, y4, z4⟩ := hI.val 4 10 rfl d4 (fun c => hnl c.2)
      obtain ⟨On, rfl, hOn, hrO⟩ : (∃ On, x4 = slV On n ∧ W.heap.size ≤ On ∧ Row w On 4 (bsV (List.replicate n false))) := z4
      have u10 : T[10] = slV On n := atA (T := T) (i := 10) y4 (by omega)
      refine wpOp_want rfl (by simp [Region.wanted, yielded, hTs]) ?_
      clear hr2
      have d3 := hI.dn 4 d4 3 (by show 3 ∈ [3]; decide)
      have d2 := hI.dn 3 d3 2 (by show 2 ∈ [2]; decide)
      have d0 := hI.dn 1 d1 0 (by show 0 ∈ [0]; decide)
      refine wp_call_xs 40 #[.tmp 7, .const (.int .i64 0), .tmp 10, .const (.slice none 0 0)] #[23, 3, 35, 22] rfl #[slV P n, .int .i64 0, slV On n, .slice none 0 0] (by simp [Act.eval, hTs, u7, u10]) (entOrdleave _ _ _ _ _) (Calls.mono (unhide HL P On w hI.ext hP hOn hrO) ?_)
      rintro e w1 ⟨ra, rc, rfl, hx, hra⟩
      refine ⟨_, rfl, rfl, hI.jump G 5 11 rfl (by show ∀ j ∈ [1, 4], ltA l j; simp only [List.mem_cons, List.not_mem_nil, or_false, forall_eq_or_imp, forall_eq]; exact ⟨d1, d4⟩) _ hx ⟨ra, rc, rfl, hra⟩ (fun k u hk _ => Or.inl ⟨?_, (ltA_set (by have hsz : l.size = 7 := hI.sz; omega)).2 (Or.inl rfl)⟩)⟩
      show k < 5
      have hkz : k < l.size := by
        rcases Nat.lt_or_ge k l.size with q | q
        · exact q
        · unfold ltA at hk; rw [Array.getElem?_eq_none q] at hk; cases hk
      have hsz : l.size = 7 := hI.sz
      have h6 : k ≠ 6 := fun e => hnd (by subst e; exact hI.dn 6 hk 5 (by show 5 ∈ [5]; decide))
      have h5 : k ≠ 5 := fun e => hnd (by subst e; exact hk)
      omega
    · simp [Region.binds] at hr2
      have d5 : ltA l 5 := (by first | exact hr2.2 | exact hr2.2.1 | exact hr2.2.2 | exact hr2.2.2.1 | exact hr2.2.2.2 | exact hr2.2.2.2.1 | exact hr2.2.2.2.2 | exact hr2.1.1 | exact hr2.1.2 | simp_all)
      obtain ⟨x5, y5, z5⟩ := hI.val 5 11 rfl d5 (fun c => absurd c.1 (by show ¬ 5 < 5; omega))
      obtain ⟨ra, rc, rfl, hra⟩ : (∃ ra rc, x5 = .slice ra o.length rc ∧ RepI w (In w) ra (zN o)) := z5
      have u11 : T[11] = .slice ra o.length rc := atA (T := T) (i := 11) y5 (by omega)
      refine wpOp_want rfl (by simp [Region.wanted, yielded, hTs]) ?_
      clear hr2
      go_simp
      exact hI.step G 6 2 rfl (by show ∀ j ∈ [5], ltA l j; simp only [List.mem_cons, List.not_mem_nil, or_false, forall_eq_or_imp, forall_eq]; exact d5) _ (Ext.refl _) ⟨ra, rc, rfl, hra⟩
  · rintro l ⟨T, d⟩ w ⟨hd, hI⟩ hz
    have hI : XInv (XOrd ga n gc N o W) A W l T w := hI
    have hsz : l.size = 7 := hI.sz
    have up : ∀ k, k < 7 → (ltA l k → False) → l[k]?.getD true = false := fun k hk hc => by
      have hkl : k < l.size := by rw [hsz]; exact hk
      have e : l[k]? = some l[k] := Array.getElem?_eq_getElem hkl
      rw [e]
      cases hb : l[k] with
      | false => rfl
      | true => exact absurd (by unfold ltA; rw [e, hb]; rfl) hc
    have r0 : l[0]?.getD false = true := Classical.byContradiction fun hc => by
      have hb := up 0 (by omega) hc
      refine absurd (?_ : 0 ∈ Region.ready _ _ l) (by rw [hz]; simp)
      unfold Region.ready
      rw [List.mem_filter]
      exact ⟨by simp, by simp [Region.binds, hb]⟩
    have r1 : l[1]?.getD false = true := Classical.byContradiction fun hc => by
      have hb := up 1 (by omega) hc
      refine absurd (?_ : 1 ∈ Region.ready _ _ l) (by rw [hz]; simp)
      unfold Region.ready
      rw [List.mem_filter]
      exact ⟨by simp, by simp [Region.binds, hb, r0]⟩
    have r2 : l[2]?.getD false = true := Classical.byContradiction fun hc => by
      have hb := up 2 (by omega) hc
      refine absurd (?_ : 2 ∈ Region.ready _ _ l) (by rw [hz]; simp)
      unfold Region.ready
      rw [List.mem_filter]
      exact ⟨by simp, by simp [Region.binds, hb, r0, r1]⟩
    have r3 : l[3]?.getD false = true := Classical.byContradiction fun hc => by
      have hb := up 3 (by omega) hc
      refine absurd (?_ : 3 ∈ Region.ready _ _ l) (by rw [hz]; simp)
      unfold Region.ready
      rw [List.mem_filter]
      exact ⟨by simp, by simp [Region.binds, hb, r0, r1, r2]⟩
    have r4 : l[4]?.getD false = true := Classical.byContradiction fun hc => by
      have hb := up 4 (by omega) hc
      refine absurd (?_ : 4 ∈ Region.ready _ _ l) (by rw [hz]; simp)
      unfold Region.ready
      rw [List.mem_filter]
      exact ⟨by simp, by simp [Region.binds, hb, r0, r1, r2, r3]⟩
    have r5 : l[5]?.getD false = true := Classical.byContradiction fun hc => by
      have hb := up 5 (by omega) hc
      refine absurd (?_ : 5 ∈ Region.ready _ _ l) (by rw [hz]; simp)
      unfold Region.ready
      rw [List.mem_filter]
      exact ⟨by simp, by simp [Region.binds, hb, r0, r1, r2, r3, r4]⟩
    have r6 : l[6]?.getD false = true := Classical.byContradiction fun hc => by
      have hb := up 6 (by omega) hc
      refine absurd (?_ : 6 ∈ Region.ready _ _ l) (by rw [hz]; simp)
      unfold Region.ready
      rw [List.mem_filter]
      exact ⟨by simp, by simp [Region.binds, hb, r0, r1, r2, r3, r4, r5]⟩
    refine ⟨hd, l, hI, fun i hi => ?_⟩
    have hi : i < 7 := hi
    rcases (show i = 0 ∨ i = 1 ∨ i = 2 ∨ i = 3 ∨ i = 4 ∨ i = 5 ∨ i = 6 by omega) with rfl | rfl | rfl | rfl | rfl | rfl | rfl
    · exact r0
    · exact r1
    · exact r2
    · exact r3
    · exact r4
    · exact r5
    · exact r6
  · exact Nat.le_refl 7
  · exact ⟨rfl, XInv.start hs _ (Ext.drew (Ext.refl _))⟩


set_option maxHeartbeats 2000000 in
theorem rorder_w (ga : Option Addr) (gc : Nat) (g : List (List Int)) (w : World) (k : Nat) (on1 : List Bool) (o : List Nat) (hg : RepG w (In w) ga g) (hf : Few g) (h0 : g.length ≠ 0) (hF : rLeave (gNorm g) k 0 (List.replicate g.length false) [] = some (on1, o)) :
    Calls Try.prog 22 #[.slice ga g.length gc] w (ROrderE w o) := by
  have hgn : g.length ≤ 1000000 := hf.1
  have hn : (gNorm g).length ≤ 1000000 := by rw [gNorm_len]; exact hf.1
  have hnl := gNorm_len g
  have H1 : Hd (∀ W : World, Ext w W → Calls Try.prog 38 #[.slice ga g.length gc] W fun e w' => ∃ P, e = .returned (slV P g.length) ∧ Ext W w' ∧ RepG w' (In w') (some ⟨P, 0, none⟩) (gUpG (gNorm g))) := fun W h => (norm_w ga gc g W (hg.ext h) hf).mono (by
    rintro e w1 ⟨P, ads, rfl, s1⟩
    exact ⟨P, by rw [hnl], s1.ext, s1.graph⟩)
  have H2 : Hd (∀ (P On : Nat) (w2 : World), Ext w w2 → RepG w2 (In w2) (some ⟨P, 0, none⟩) (gUpG (gNorm g)) → w.heap.size ≤ On → Row w2 On 4 (bsV (List.replicate g.length false)) → Calls Try.prog 40 #[slV P g.length, .int .i64 0, slV On g.length, .slice none 0 0] w2 fun e w' => ∃ ra rc, e = .returned (.slice ra o.length rc) ∧ Ext w w' ∧ RepI w' (In w') ra (zN o)) := fun P On w2 hE hP hOn hr => by
    have := leave_w (gNorm g) hn (gNorm_bd g 1000000 hf.2) (gNorm_pts g) w (some ⟨P, 0, none⟩) (gNorm g).length On hOn k 0 (List.replicate g.length false) [] (on1, o) none 0 w2 hF (repG_apart hP hr) hE hr (by rw [hnl]; simp) (Or.inl rfl) (by have := unsh_le (List.replicate g.length false); simp only [List.length_replicate, List.length_nil] at *; omega) (by rw [List.getElem?_replicate, if_pos (by omega)])
    rw [hnl] at this
    refine Calls.mono this ?_
    rintro e w3 ⟨ra, rc, rfl, x2, _, r2, p2⟩
    exact ⟨ra, rc, rfl, x2, p2.to fun b hb => ⟨hb.1, rfl⟩⟩
  have M2 := hide (make_bools g.length hgn)
  have h0' : ¬ (g.length : Int) = 0 := by omega
  have h0b : ((g.length : Int) == 0) = false := by rw [beq_eq_false_iff_ne]; exact h0'
  clear hg hf hF hn hnl
  go_enter Try.func22, Try.ntmps22
  go_wp2_with fail
  refine x_abs (XOrd ga g.length gc (gNorm g) o w) (XGOrd _ _ _ _ _ _) rfl (fun A hA => ?_) ?_
  · subst hA
    exact regionOrd _ ga g.length gc (gNorm g) o w rfl rfl hgn (unhide M2) H1 H2
  intro u w1 hx hp
  obtain ⟨ra, rc, hu, hr⟩ : ∃ ra rc, u 6 = .slice ra o.length rc ∧ RepI w1 (In w1) ra (zN o) := hp 6 (by show 6 < 7; omega) (Or.inl (by show 6 ≥ 5; omega))
  have HR := hide hr
  have HX := hide hx
  rename_i hKK
  refine hKK _ _ ?_
  clear hKK hp hr hx
  simp only [XOrd, setsL, Nat.reduceAdd, List.setIfInBounds_toArray, List.set_cons_zero, List.set_cons_succ, hu]
  go_wp2_with fail
  go_ret
  exact ⟨ra, rc, rfl, unhide HX, unhide HR⟩

end Go.Proofs.Ytmhcecofknemkaa
