/- Plain: what climbOf finds: the entries, each made of those of greater numbers. -/
import Derived.Test.YtmhcecofknemkaaGrDa
import Derived.Test.YtmhcecofknemkaaGrCb
set_option linter.unusedSimpArgs false
set_option linter.unusedVariables false
namespace Go.Proofs.Ytmhcecofknemkaa
open Go.RowKit

def UpN (M : List Nat) (wb : List (Option Nat)) (i j : Nat) : Prop := ∃ a b, M[i]? = some a ∧ M[j]? = some b ∧ Up wb a b

section
variable {g : List (List Int)} {M : List Nat} {wb : List (Option Nat)}
theorem DfsF.le (D : DfsF g M wb) {a b : Nat} (h : Up wb a b) : ∀ {i j : Nat}, M[i]? = some a → M[j]? = some b → i ≤ j := by
  induction h with
  | refl => intro i j hi hj; rw [nd_inj D.nd hi hj]; exact Nat.le_refl _
  | @step x y k e ih =>
    intro i j hi hj
    rcases D.par j x hj with f | ⟨y2, j2, f1, f2, f3, _⟩
    · subst f
      rw [D.zero] at hj
      injection hj with hj
      subst hj
      rw [D.root] at e
      cases e
    · rw [e] at f1
      injection f1 with f1
      injection f1 with f1
      subst f1
      have := ih hi f3
      omega
theorem UpN.le {i j : Nat} (h : UpN M wb i j) (D : DfsF g M wb) : i ≤ j := by
  obtain ⟨a, b, h1, h2, h3⟩ := h
  exact D.le h3 h1 h2
theorem UpN.refl {j : Nat} (h : j < M.length) : UpN M wb j j := ⟨_, _, List.getElem?_eq_getElem h, List.getElem?_eq_getElem h, .refl⟩
theorem UpN.trans {i j k : Nat} (h : UpN M wb i j) (k : UpN M wb j k) : UpN M wb i ‹Nat› := by
  obtain ⟨a, b, h1, h2, h3⟩ := h
  obtain ⟨c, d, k1, k2, k3⟩ := k
  rw [h2] at k1
  injection k1 with k1
  subst k1
  exact ⟨a, d, h1, k2, h3.trans k3⟩
theorem UpN.mid {i j k : Nat} (h : UpN M wb i k) (D : DfsF g M wb) (h1 : i ≤ j) (h2 : j ≤ k) : UpN M wb i j := by
  obtain ⟨a, v, e1, e2, e3⟩ := h
  have hj : j < M.length := by have := (List.getElem?_eq_some_iff.1 e2).1; omega
  exact ⟨a, _, e1, List.getElem?_eq_getElem hj, D.a2 i j k a _ v h1 h2 e1 (List.getElem?_eq_getElem hj) e2 e3⟩
theorem DfsF.up (D : DfsF g M wb) {j x : Nat} (hx : M[j]? = some x) (h0 : 0 < j) : ∃ y u, wb[x]? = some (some y) ∧ M[u]? = some y ∧ u < j ∧ EdgG g y x ∧ UpN M wb u j ∧ ∀ i, UpN M wb i j → i = j ∨ UpN M wb i u := by
  rcases D.par j x hx with f | ⟨y, u, f1, f2, f3, f4⟩
  · omega
  · refine ⟨y, u, f1, f3, f2, f4, ⟨y, x, f3, hx, .step .refl f1⟩, fun i hi => ?_⟩
    obtain ⟨a, b, e1, e2, e3⟩ := hi
    rw [hx] at e2
    injection e2 with e2
    subst e2
    rcases e3.inv f1 with e | e
    · subst e; exact Or.inl (nd_inj D.nd e1 hx)
    · exact Or.inr ⟨a, y, e1, f3, e⟩
end

def LowR (M : List Nat) (wb : List (Option Nat)) (ent : List Nat) (u x lo : Nat) : Prop := (∀ y e : Nat, UpN M wb y x → u < y → ent[y]? = some e → lo ≤ e) ∧ ∃ y : Nat, UpN M wb y x ∧ u < y ∧ ent[y]? = some lo
structure ClI (M : List Nat) (wb : List (Option Nat)) (n : Nat) (up low ent : List Nat) : Prop where
  lu : up.length = M.length
  ll : low.length = M.length
  le : ent.length = M.length
  ok : ∀ x : Nat, n < x → x < M.length → ∃ u lo : Nat, up[x]? = some u ∧ low[x]? = some lo ∧ u < x ∧ UpN M wb u x ∧ (∀ y, UpN M wb y x → u < y → n < y) ∧ LowR M wb ent u x lo
/-- A way up, from its top. -/
def ChW (n N : Nat) (up : List Nat) : Nat → List Nat → Prop
  | _, [] => True
  | top, p :: r => up[p]? = some top ∧ n < p ∧ p < N ∧ ChW n N up p r
theorem ChW.gt {n N : Nat} {up : List Nat} (h : ∀ x u : Nat, up[x]? = some u → n < x → x < N → u < x) : ∀ (W : List Nat) (top : Nat), ChW n N up top W → ∀ q ∈ W, top < q
  | [], top, _, q, hq => by cases hq
  | p :: r, top, hc, q, hq => by
    have h1 := h p top hc.1 hc.2.1 hc.2.2.1
    rcases List.mem_cons.1 hq with e | e
    · rw [e]; exact h1
    · exact Nat.lt_trans h1 (ChW.gt h r p hc.2.2.2 q e)
theorem ChW.set {n N : Nat} {up : List Nat} {p v : Nat} : ∀ (W : List Nat) (top : Nat), ChW n N up top W → p ∉ W → ChW n N (up.set p v) top W
  | [], top, _, _ => trivial
  | q :: r, top, hc, hp => by
    refine ⟨?_, hc.2.1, hc.2.2.1, ChW.set r q hc.2.2.2 (fun e => hp (List.mem_cons_of_mem _ e))⟩
    rw [List.getElem?_set, if_neg (fun e => hp (by rw [e]; exact List.mem_cons_self ..))]
    exact hc.1

section
variable {g : List (List Int)} {M : List Nat} {wb : List (Option Nat)}
theorem gPress_ok (D : DfsF g M wb) (n : Nat) (ent : List Nat) : ∀ (W : List Nat) (top v : Nat) (up low : List Nat), ClI M wb n up low ent → n < top → top < M.length → up[top]? = some v → v ≤ n → ChW n M.length up top W →
    ∃ up' low', gPress W up low = some (up', low') ∧ ClI M wb n up' low' ent ∧ (∀ p ∈ W, up'[p]? = some v) ∧ (∀ q : Nat, q ∉ W → up'[q]? = up[q]?)
  | [], top, v, up, low, hC, _, _, _, _, _ => ⟨up, low, rfl, hC, fun p hp => by (cases hp), fun q _ => rfl⟩
  | p :: r, top, v, up, low, hC, ht, htN, hv, hvn, hW => by
    have hlt : ∀ x u : Nat, up[x]? = some u → n < x → x < M.length → u < x := fun x u hu h1 h2 => by
      obtain ⟨u2, _, e, _, e2, _⟩ := hC.ok x h1 h2
      rw [hu] at e
      injection e with e
      rw [e]; exact e2
    obtain ⟨hp, hpn, hpN, hr⟩ := hW
    obtain ⟨u1, a, p1, p2, p3, p4, p5, p6⟩ := hC.ok p hpn hpN
    rw [hp] at p1
    injection p1 with p1
    subst p1
    obtain ⟨v1, b, q1, q2, q3, q4, q5, q6⟩ := hC.ok top ht htN
    rw [hv] at q1
    injection q1 with q1
    subst q1
    have hpr : p ∉ r := fun hm => Nat.lt_irrefl _ (ChW.gt hlt r p hr p hm)
    have hmid : ∀ y, UpN M wb y p → y ≤ top → UpN M wb y top := fun y hy hyt => hy.mid D hyt (by omega)
    have hC1 : ClI M wb n (up.set p v) (low.set p (min a b)) ent := by
      refine ⟨by simp [hC.lu], by simp [hC.ll], hC.le, fun x hx hxN => ?_⟩
      by_cases e : p = x
      · subst e
        refine ⟨v, min a b, by rw [List.getElem?_set_self (by rw [hC.lu]; exact hpN)], by rw [List.getElem?_set_self (by rw [hC.ll]; exact hpN)], by omega, q4.trans p4, fun y hy hvy => ?_, fun y e hy hvy he => ?_, ?_⟩
        · by_cases h : top < y
          · exact p5 y hy h
          · exact q5 y (hmid y hy (by omega)) hvy
        · by_cases h : top < y
          · have := p6.1 y e hy h he; omega
          · have := q6.1 y e (hmid y hy (by omega)) hvy he; omega
        · obtain ⟨y1, f1, f2, f3⟩ := p6.2
          obtain ⟨y2, g1, g2, g3⟩ := q6.2
          by_cases h : a ≤ b
          · exact ⟨y1, f1, by omega, by rw [Nat.min_eq_left h]; exact f3⟩
          · exact ⟨y2, g1.trans p4, g2, by rw [Nat.min_eq_right (by omega)]; exact g3⟩
      · rw [List.getElem?_set, if_neg e, List.getElem?_set, if_neg e]
        exact hC.ok x hx hxN
    have hv1 : (up.set p v)[p]? = some v := by rw [List.getElem?_set_self (by rw [hC.lu]; exact hpN)]
    obtain ⟨up', low', r1, r2, r3, r4⟩ := gPress_ok D n ent r p v _ _ hC1 hpn hpN hv1 hvn (ChW.set r p hr hpr)
    refine ⟨up', low', ?_, r2, fun q hq => ?_, fun q hq => ?_⟩
    · rw [gPress, p2, hp]
      simp only [q2, hv]
      exact r1
    · rcases List.mem_cons.1 hq with e | e
      · rw [e, r4 p hpr]; exact hv1
      · exact r3 q e
    · rw [r4 q (fun e => hq (List.mem_cons_of_mem _ e)), List.getElem?_set, if_neg (fun e => hq (by rw [e]; exact List.mem_cons_self ..))]
theorem gUp_ok (n N : Nat) (up : List Nat) (hu : ∀ x : Nat, n < x → x < N → ∃ u, up[x]? = some u ∧ u < x) : ∀ (k p : Nat) (way : List Nat), n < p → p < N → p < k → ChW n N up p way.reverse →
    ∃ way' top v, gUp up n k p way = some way' ∧ ChW n N up top way'.reverse ∧ n < top ∧ top < N ∧ up[top]? = some v ∧ v ≤ n ∧ (∀ q ∈ way, q ∈ way') ∧ (p = top ∨ p ∈ way')
  | 0, p, way, _, _, hk, _ => by omega
  | k + 1, p, way, hn, hN, hk, hW => by
    obtain ⟨u, e1, e2⟩ := hu p hn hN
    rw [gUp, e1]
    simp only
    split
    · rename_i h
      obtain ⟨way', top, v, r1, r2, r3, r4, r5, r6, r7, r8⟩ := gUp_ok n N up hu k u (way ++ [p]) h (by omega) (by omega) (by rw [List.reverse_append]; exact ⟨e1, hn, hN, hW⟩)
      exact ⟨way', top, v, r1, r2, r3, r4, r5, r6, fun q hq => r7 q (List.mem_append_left _ hq), Or.inr (r7 p (by simp))⟩
    · rename_i h
      exact ⟨way, p, u, rfl, hW, hn, hN, e1, by omega, fun q hq => hq, Or.inl rfl⟩
theorem gLow_ok (D : DfsF g M wb) (K n m : Nat) (c : GC) (hC : ClI M wb n c.up c.low c.ent) (hm : n < m) (hmN : m < M.length) (hK : M.length ≤ K) :
    ∃ lo c', gLow K c m n = some (lo, c') ∧ c'.num = c.num ∧ c'.ent = c.ent ∧ ClI M wb n c'.up c'.low c'.ent ∧ (∀ q : Nat, q ≤ n → c'.up[q]? = c.up[q]?) ∧ LowR M wb c.ent n m lo := by
  obtain ⟨way, top, v, r1, r2, r3, r4, r5, r6, _, r8⟩ := gUp_ok n M.length c.up (fun x h1 h2 => by
    obtain ⟨u, _, e, _, e2, _⟩ := hC.ok x h1 h2
    exact ⟨u, e, e2⟩) K m [] hm hmN (by omega) trivial
  obtain ⟨up', low', s1, s2, s3, s4⟩ := gPress_ok D n c.ent way.reverse top v c.up c.low hC r3 r4 r5 r6 r2
  have hlt : ∀ x u : Nat, c.up[x]? = some u → n < x → x < M.length → u < x := fun x u hu h1 h2 => by
    obtain ⟨u2, _, e, _, e2, _⟩ := hC.ok x h1 h2
    rw [hu] at e
    injection e with e
    rw [e]; exact e2
  have hgt := ChW.gt hlt way.reverse top r2
  have hupm : up'[m]? = some v := by
    rcases r8 with e | e
    · rw [s4 m (fun hm2 => by have := hgt m hm2; omega), e]; exact r5
    · exact s3 m (by simpa using e)
  obtain ⟨u, lo, t1, t2, t3, t4, t5, t6⟩ := s2.ok m hm hmN
  rw [hupm] at t1
  injection t1 with t1
  subst t1
  refine ⟨lo, ⟨c.num, up', low', c.ent, way⟩, ?_, rfl, rfl, s2, fun q hq => s4 q (fun hq2 => by have := hgt q hq2; omega), fun y e hy hny he => t6.1 y e hy (by omega) he, ?_⟩
  · unfold gLow
    rw [if_neg (by omega), r1]
    simp only [s1, t2]
  · obtain ⟨y, f1, f2, f3⟩ := t6.2
    exact ⟨y, f1, t5 y f1 f2, f3⟩

def LowB (M : List Nat) (wb : List (Option Nat)) (ent : List Nat) (n m r : Nat) : Prop := (m ≤ n → r ≤ m) ∧ (n < m → ∀ y e : Nat, UpN M wb y m → n < y → ent[y]? = some e → r ≤ e)
def LowE (M : List Nat) (wb : List (Option Nat)) (ent : List Nat) (n m r : Nat) : Prop := (m ≤ n ∧ r = m) ∨ (n < m ∧ ∃ y : Nat, UpN M wb y m ∧ n < y ∧ ent[y]? = some r)
theorem LowB.le {ent : List Nat} {n m r r2 : Nat} (h : LowB M wb ent n m r) (k : r2 ≤ r) : LowB M wb ent n m r2 := ⟨fun a => Nat.le_trans k (h.1 a), fun a y e b c d => Nat.le_trans k (h.2 a y e b c d)⟩
theorem gEnt_ok (D : DfsF g M wb) (K n : Nat) (hK : M.length ≤ K) : ∀ (l : List Nat) (least : Nat) (c : GC), ClI M wb n c.up c.low c.ent → c.num = gPlaces g.length M → (∀ p ∈ l, p < g.length) →
    ∃ r c', gEnt K n l least c = some (r, c') ∧ c'.num = c.num ∧ c'.ent = c.ent ∧ ClI M wb n c'.up c'.low c'.ent ∧ (∀ q : Nat, q ≤ n → c'.up[q]? = c.up[q]?) ∧ r ≤ least ∧ (∀ p ∈ l, ∀ m : Nat, M[m]? = some p → LowB M wb c.ent n m r) ∧ (r = least ∨ ∃ p ∈ l, ∃ m : Nat, M[m]? = some p ∧ LowE M wb c.ent n m r)
  | [], least, c, hC, _, _ => ⟨least, c, rfl, rfl, rfl, hC, fun q _ => rfl, Nat.le_refl _, fun p hp => by (cases hp), Or.inl rfl⟩
  | p :: l, least, c, hC, hnum, hl => by
    have hpn := hl p (List.mem_cons_self ..)
    have hl' : ∀ q ∈ l, q < g.length := fun q hq => hl q (List.mem_cons_of_mem _ hq)
    rw [gEnt]
    by_cases hp : p ∈ M
    · obtain ⟨m, hm⟩ := List.getElem?_of_mem hp
      have hmN := (List.getElem?_eq_some_iff.1 hm).1
      have e1 : c.num[p]? = some (some m) := by rw [hnum]; exact gPlaces_at D.nd D.lt hm
      rw [e1]
      simp only
      have huniq : ∀ m2 : Nat, M[m2]? = some p → m2 = m := fun m2 h2 => nd_inj D.nd h2 hm
      by_cases hmn : m ≤ n
      · have e2 : gLow K c m n = some (m, c) := by unfold gLow; rw [if_pos hmn]
        rw [e2]
        simp only
        obtain ⟨r, c', a1, a2, a3, a4, a5, a6, a7, a8⟩ := gEnt_ok D K n hK l (min least m) c hC hnum hl'
        refine ⟨r, c', a1, a2, a3, a4, a5, by omega, fun q hq m2 h2 => ?_, ?_⟩
        · rcases List.mem_cons.1 hq with e | e
          · rw [e] at h2
            rw [huniq m2 h2]
            exact ⟨fun _ => by omega, fun h => by omega⟩
          · exact a7 q e m2 h2
        · rcases a8 with e | ⟨q, hq, m2, h2, h3⟩
          · by_cases h : least ≤ m
            · exact Or.inl (by omega)
            · exact Or.inr ⟨p, List.mem_cons_self .., m, hm, Or.inl ⟨hmn, by omega⟩⟩
          · exact Or.inr ⟨q, List.mem_cons_of_mem _ hq, m2, h2, h3⟩
      · obtain ⟨lo, c1, b1, b2, b3, b4, b5, b6⟩ := gLow_ok D K n m c hC (by omega) hmN hK
        rw [b1]
        simp only
        obtain ⟨r, c', a1, a2, a3, a4, a5, a6, a7, a8⟩ := gEnt_ok D K n hK l (min least lo) c1 b4 (by rw [b2]; exact hnum) hl'
        rw [b3] at a7 a8
        refine ⟨r, c', a1, a2.trans b2, a3.trans b3, a4, fun q hq => (a5 q hq).trans (b5 q hq), by omega, fun q hq m2 h2 => ?_, ?_⟩
        · rcases List.mem_cons.1 hq with e | e
          · rw [e] at h2
            rw [huniq m2 h2]
            exact ⟨fun h => by omega, fun _ y e2 hy hny he => by have := b6.1 y e2 hy hny he; omega⟩
          · exact a7 q e m2 h2
        · rcases a8 with e | ⟨q, hq, m2, h2, h3⟩
          · by_cases h : least ≤ lo
            · exact Or.inl (by omega)
            · obtain ⟨y, f1, f2, f3⟩ := b6.2
              exact Or.inr ⟨p, List.mem_cons_self .., m, hm, Or.inr ⟨by omega, y, f1, f2, by rw [e, Nat.min_eq_right (by omega)]; exact f3⟩⟩
          · exact Or.inr ⟨q, List.mem_cons_of_mem _ hq, m2, h2, h3⟩
    · have e1 : c.num[p]? = some none := by rw [hnum]; exact gPlaces_not D.nd D.lt hp hpn
      rw [e1]
      simp only
      obtain ⟨r, c', a1, a2, a3, a4, a5, a6, a7, a8⟩ := gEnt_ok D K n hK l least c hC hnum hl'
      refine ⟨r, c', a1, a2, a3, a4, a5, a6, fun q hq m2 h2 => ?_, ?_⟩
      · rcases List.mem_cons.1 hq with e | e
        · rw [e] at h2; exact absurd (List.mem_of_getElem? h2) hp
        · exact a7 q e m2 h2
      · rcases a8 with e | ⟨q, hq, m2, h2, h3⟩
        · exact Or.inl e
        · exact Or.inr ⟨q, List.mem_cons_of_mem _ hq, m2, h2, h3⟩

/-- An entry is made of those of greater numbers. -/
def EntOK (M : List Nat) (wb : List (Option Nat)) (ps : List (List Nat)) (ent : List Nat) (j : Nat) : Prop := ∃ e x l, ent[j]? = some e ∧ M[j]? = some x ∧ ps[x]? = some l ∧ e ≤ j ∧ (∀ p ∈ l, ∀ m : Nat, M[m]? = some p → LowB M wb ent j m e) ∧ (e = j ∨ ∃ p ∈ l, ∃ m : Nat, M[m]? = some p ∧ LowE M wb ent j m e)
theorem EntOK.set {ps : List (List Nat)} {ent : List Nat} {j n v : Nat} (h : EntOK M wb ps ent j) (hn : n < j) : EntOK M wb ps (ent.set n v) j := by
  obtain ⟨e, x, l, h1, h2, h3, h4, h5, h6⟩ := h
  have hs : ∀ y : Nat, j ≤ y → (ent.set n v)[y]? = ent[y]? := fun y hy => by rw [List.getElem?_set, if_neg (by omega)]
  refine ⟨e, x, l, by rw [hs j (Nat.le_refl _)]; exact h1, h2, h3, h4, fun p hp m hm => ?_, ?_⟩
  · have := h5 p hp m hm
    exact ⟨this.1, fun a y e2 b c d => this.2 a y e2 b c (by rw [hs y (by omega)] at d; exact d)⟩
  · rcases h6 with e1 | ⟨p, hp, m, hm, e1⟩
    · exact Or.inl e1
    · refine Or.inr ⟨p, hp, m, hm, ?_⟩
      rcases e1 with e1 | ⟨e1, y, f1, f2, f3⟩
      · exact Or.inl e1
      · exact Or.inr ⟨e1, y, f1, f2, by rw [hs y (by omega)]; exact f3⟩
theorem gCls_ok (D : DfsF g M wb) (K : Nat) (hK : M.length ≤ K) (ps : List (List Nat)) (hps : ps.length = g.length) (hpp : ∀ l ∈ ps, ∀ p ∈ l, p < g.length) : ∀ (n : Nat) (c : GC), n < M.length → ClI M wb n c.up c.low c.ent → c.num = gPlaces g.length M → (∀ j : Nat, n < j → j < M.length → EntOK M wb ps c.ent j) →
    ∃ c', gCls K M wb ps n c = some c' ∧ c'.ent.length = M.length ∧ c'.num = c.num ∧ ∀ j : Nat, 0 < j → j < M.length → EntOK M wb ps c'.ent j
  | 0, c, _, hC, _, hE => ⟨c, rfl, hC.le, rfl, fun j h1 h2 => hE j h1 h2⟩
  | n + 1, c, hn, hC, hnum, hE => by
    obtain ⟨p, hp⟩ : ∃ p, M[n + 1]? = some p := ⟨_, List.getElem?_eq_getElem hn⟩
    obtain ⟨b, u, w1, w2, w3, w4, w5, w6⟩ := D.up hp (by omega)
    have hpg := D.lt p (List.mem_of_getElem? hp)
    obtain ⟨l, hl⟩ : ∃ l, ps[p]? = some l := ⟨_, List.getElem?_eq_getElem (by rw [hps]; exact hpg)⟩
    have hnb : c.num[b]? = some (some u) := by rw [hnum]; exact gPlaces_at D.nd D.lt w2
    rw [gCls, hp]
    simp only [w1, hl, hnb]
    have hC1 : ClI M wb (n + 1) (c.up.set (n + 1) u) c.low c.ent := ⟨by simp [hC.lu], hC.ll, hC.le, fun x hx hxN => by
      rw [List.getElem?_set, if_neg (by omega)]
      exact hC.ok x hx hxN⟩
    obtain ⟨r, c', a1, a2, a3, a4, a5, a6, a7, a8⟩ := gEnt_ok D K (n + 1) hK l (n + 1) ⟨c.num, c.up.set (n + 1) u, c.low, c.ent, c.way⟩ hC1 hnum (hpp l (List.mem_of_getElem? hl))
    rw [a1]
    simp only at a2 a3 a5 a7 a8 ⊢
    have hs : ∀ y : Nat, n + 1 < y → (c'.ent.set (n + 1) r)[y]? = c'.ent[y]? := fun y hy => by rw [List.getElem?_set, if_neg (by omega)]
    have hself : (c'.ent.set (n + 1) r)[n + 1]? = some r := by rw [List.getElem?_set_self (by rw [a4.le]; exact hn)]
    have hupn : c'.up[n + 1]? = some u := by rw [a5 (n + 1) (Nat.le_refl _), List.getElem?_set_self (by rw [hC.lu]; exact hn)]
    refine gCls_ok D K hK ps hps hpp n ⟨c'.num, c'.up, c'.low.set (n + 1) r, c'.ent.set (n + 1) r, c'.way⟩ (by omega) ⟨a4.lu, by simp [a4.ll], by simp [a4.le], fun x hx hxN => ?_⟩ (a2.trans hnum) (fun j hj hjN => ?_) |>.imp (fun c2 h => ⟨h.1, h.2.1, h.2.2.1.trans a2, h.2.2.2⟩)
    · by_cases e : x = n + 1
      · subst e
        have hr : ∀ y, UpN M wb y (n + 1) → u < y → y = n + 1 := fun y hy hu => by
          rcases w6 y hy with e | e
          · exact e
          · have := e.le D; omega
        refine ⟨u, r, hupn, by simp only; rw [List.getElem?_set_self (by rw [a4.ll]; exact hn)], w3, w5, fun y hy hu => by rw [hr y hy hu]; omega, fun y e hy hu he => ?_, n + 1, UpN.refl hn, w3, hself⟩
        rw [hr y hy hu, hself] at he
        injection he with he
        omega
      · obtain ⟨u2, lo, t1, t2, t3, t4, t5, t6⟩ := a4.ok x (by omega) hxN
        refine ⟨u2, lo, t1, by simp only; rw [List.getElem?_set, if_neg (by omega)]; exact t2, t3, t4, fun y hy hu => by have := t5 y hy hu; omega, fun y e hy hu he => t6.1 y e hy hu (by rw [hs y (t5 y hy hu)] at he; exact he), ?_⟩
        obtain ⟨y, f1, f2, f3⟩ := t6.2
        exact ⟨y, f1, f2, by rw [hs y (t5 y f1 f2)]; exact f3⟩
    · by_cases e : j = n + 1
      · subst e
        rw [← a3] at a7 a8
        refine ⟨r, p, l, hself, hp, hl, a6, fun q hq m hm => ?_, ?_⟩
        · have := a7 q hq m hm
          exact ⟨this.1, fun a y e2 b c d => this.2 a y e2 b c (by rw [hs y c] at d; exact d)⟩
        · rcases a8 with e1 | ⟨q, hq, m, hm, e1⟩
          · exact Or.inl e1
          · refine Or.inr ⟨q, hq, m, hm, ?_⟩
            rcases e1 with e1 | ⟨e1, y, f1, f2, f3⟩
            · exact Or.inl e1
            · exact Or.inr ⟨e1, y, f1, f2, by rw [hs y f2]; exact f3⟩
      · refine EntOK.set ?_ (by omega)
        rw [a3]
        exact hE j (by omega) hjN
theorem gClimb_ok (D : DfsF g M wb) (K : Nat) (hK : M.length ≤ K) (ps : List (List Nat)) (hps : ps.length = g.length) (hpp : ∀ l ∈ ps, ∀ p ∈ l, p < g.length) : ∃ c, gClimb K g.length M wb ps = some c ∧ c.ent.length = M.length ∧ c.num = gPlaces g.length M ∧ ∀ j : Nat, 0 < j → j < M.length → EntOK M wb ps c.ent j := by
  have h0 := (List.getElem?_eq_some_iff.1 D.zero).1
  unfold gClimb
  obtain ⟨c, h1, h2, h3, h4⟩ := gCls_ok D K hK ps hps hpp (M.length - 1) ⟨gPlaces g.length M, List.replicate M.length 0, List.replicate M.length 0, List.replicate M.length 0, []⟩ (by omega) ⟨by simp, by simp, by simp, fun x h1 h2 => by omega⟩ rfl (fun j h1 h2 => by omega)
  exact ⟨c, h1, h2, h3, h4⟩
end
end Go.Proofs.Ytmhcecofknemkaa
