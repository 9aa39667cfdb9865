/- Plain: the walk's tree: numbers, the way up, what an edge to a greater number tells. -/
import Derived.Test.YtmhcecofknemkaaGrCa
set_option linter.unusedSimpArgs false
set_option linter.unusedVariables false
namespace Go.Proofs.Ytmhcecofknemkaa
open Go.RowKit

/-- a stands on the way up from a point, or is it. -/
inductive Up (wb : List (Option Nat)) (a : Nat) : Nat → Prop
  | refl : Up wb a a
  | step {x y : Nat} : Up wb a y → wb[x]? = some (some y) → Up wb a x
theorem Up.trans {wb : List (Option Nat)} {a b c : Nat} (h : Up wb a b) (k : Up wb b c) : Up wb a c := by
  induction k with
  | refl => exact h
  | step _ e ih => exact .step ih e
theorem Up.inv {wb : List (Option Nat)} {a x y : Nat} (h : Up wb a x) (e : wb[x]? = some (some y)) : a = x ∨ Up wb a y := by
  cases h with
  | refl => exact Or.inl rfl
  | step k f =>
    rw [e] at f
    injection f with f
    injection f with f
    subst f
    exact Or.inr k
def EdgG (g : List (List Int)) (a b : Nat) : Prop := ∃ L x, g[a]? = some L ∧ x ∈ L ∧ gPt g.length x = true ∧ x.toNat = b

theorem dScan_keep (g : List (List Int)) : ∀ (k : Nat) (d : GD) (p : Nat) (l : List Int) (d2 : GD), dScan g k d p l = some d2 → d.shut.length = g.length → (∃ new, d2.met = d.met ++ new) ∧ d2.wby.length = d.wby.length ∧ (∀ q : Nat, d.shut[q]? = some true → d2.wby[q]? = d.wby[q]?) ∧ ((∀ q ∈ d.met, d.shut[q]? = some true) → ∀ q ∈ d2.met, d2.shut[q]? = some true)
  | 0, d, p, l, d2, h, hl => by rw [dScan] at h; cases h
  | k + 1, d, p, [], d2, h, hl => by
    rw [dScan] at h
    injection h with h
    subst h
    exact ⟨⟨[], by simp⟩, rfl, fun q _ => rfl, fun h => h⟩
  | k + 1, d, p, x :: r, d2, h, hl => by
    rw [dScan] at h
    split at h
    · rename_i hx
      obtain ⟨hxs, hxn, hx00⟩ := gOk_lt hx
      split at h
      · cases h
      · split at h
        · cases h
        · rename_i d1 h1
          have hon := dScan_on g k _ _ _ _ h1 (by simp [hl])
          obtain ⟨⟨n1, a1⟩, a2, a3, a4⟩ := dScan_keep g k _ _ _ _ h1 (by simp [hl])
          obtain ⟨⟨n2, b1⟩, b2, b3, b4⟩ := dScan_keep g k _ _ _ _ h hon.1
          simp only at a1 a2 a3 a4 b1 b2 b3 b4
          refine ⟨⟨x.toNat :: n1 ++ n2, by rw [b1, a1]; simp⟩, by rw [b2, a2]; simp, fun q hq => ?_, fun hm => b4 (a4 (fun q hq => ?_))⟩
          · rw [b3 q (hon.2.1 q (shut_set _ _ _ hq)), a3 q (shut_set _ _ _ hq), List.getElem?_set, if_neg]
            rintro rfl
            rw [hxs] at hq
            cases hq
          · rcases List.mem_append.1 hq with e | e
            · exact shut_set _ _ _ (hm q e)
            · rw [List.mem_singleton.1 e, List.getElem?_set]; simp [hl, hxn]
    · exact dScan_keep g k _ _ _ _ h hl

theorem at_app {l new : List Nat} {i x : Nat} (h : l[i]? = some x) : (l ++ new)[i]? = some x := by
  rw [List.getElem?_append_left (List.getElem?_eq_some_iff.1 h).1]; exact h
theorem at_snoc {l : List Nat} {i x y : Nat} (h : (l ++ [y])[i]? = some x) : (i < l.length ∧ l[i]? = some x) ∨ (i = l.length ∧ x = y) := by
  by_cases hi : i < l.length
  · rw [List.getElem?_append_left hi] at h
    exact Or.inl ⟨hi, h⟩
  · have := (List.getElem?_eq_some_iff.1 h).1
    rw [List.length_append] at this
    simp only [List.length_cons, List.length_nil] at this
    have e : i = l.length := by omega
    subst e
    rw [List.getElem?_append_right (Nat.le_refl _), Nat.sub_self] at h
    exact Or.inr ⟨rfl, by simpa using h.symm⟩
theorem nd_inj {l : List Nat} (h : l.Nodup) {i j x : Nat} (hi : l[i]? = some x) (hj : l[j]? = some x) : i = j := by
  have h1 := List.getElem?_eq_some_iff.1 hi
  have h2 := List.getElem?_eq_some_iff.1 hj
  exact (List.getElem_inj h).1 (h1.2.trans h2.2.symm)

structure DfI (g : List (List Int)) (wb : List (Option Nat)) (d : GD) (p : Nat) : Prop where
  len : d.shut.length = g.length
  wl : d.wby.length = g.length
  ms : ∀ q : Nat, d.shut[q]? = some true ↔ q ∈ d.met
  nd : d.met.Nodup
  par : ∀ (i x : Nat), d.met[i]? = some x → i = 0 ∨ ∃ y j, wb[x]? = some (some y) ∧ j < i ∧ d.met[j]? = some y ∧ EdgG g y x
  a2 : ∀ (i j k a c v : Nat), i ≤ j → j ≤ k → d.met[i]? = some a → d.met[j]? = some c → d.met[k]? = some v → Up wb a v → Up wb a c
  S : ∀ (i j a c : Nat), d.met[i]? = some a → d.met[j]? = some c → i ≤ j → Up wb a p → Up wb a c
  pm : p ∈ d.met
  lf : ∀ x ∈ d.left, ∀ b, EdgG g x b → ∃ i j : Nat, d.met[i]? = some x ∧ d.met[j]? = some b ∧ (i < j → Up wb x b)

theorem dScan_dfs (g : List (List Int)) (wb : List (Option Nat)) : ∀ (k : Nat) (d : GD) (p : Nat) (l : List Int) (d2 : GD), dScan g k d p l = some d2 → (∀ q ∈ d2.met, wb[q]? = d2.wby[q]?) → DfI g wb d p → (∃ L, g[p]? = some L ∧ ∀ x ∈ l, x ∈ L) → DfI g wb d2 p
  | 0, d, p, l, d2, h, _, _, _ => by rw [dScan] at h; cases h
  | k + 1, d, p, [], d2, h, _, hS, _ => by
    rw [dScan] at h
    injection h with h
    subst h
    exact hS
  | k + 1, d, p, x :: r, d2, h, hw, hS, ⟨L, hL, hlL⟩ => by
    rw [dScan] at h
    have hrL : ∃ L, g[p]? = some L ∧ ∀ x ∈ r, x ∈ L := ⟨L, hL, fun y hy => hlL y (List.mem_cons_of_mem _ hy)⟩
    split at h
    · rename_i hx
      obtain ⟨hxs, hxn, hx00⟩ := gOk_lt hx
      have hpt : gPt g.length x = true := by unfold gOk at hx; simp only [Bool.and_eq_true] at hx; exact hx.1
      split at h
      · cases h
      · rename_i Lx hLx
        split at h
        · cases h
        · rename_i d1 h1
          have hl' : (d.shut.set x.toNat true).length = g.length := by simp [hS.len]
          have hon := dScan_on g k _ _ _ _ h1 hl'
          obtain ⟨⟨n1, a1⟩, a2, a3, a4⟩ := dScan_keep g k _ _ _ _ h1 hl'
          obtain ⟨⟨n2, b1⟩, b2, b3, _⟩ := dScan_keep g k _ _ _ _ h hon.1
          simp only at a1 a2 a3 a4 b1 b2 b3
          have hx1 : (d.shut.set x.toNat true)[x.toNat]? = some true := by rw [List.getElem?_set]; simp [hS.len, hxn]
          have hxm : x.toNat ∉ d.met := fun hm => by rw [(hS.ms _).2 hm] at hxs; cases hxs
          have hE : EdgG g p x.toNat := ⟨L, x, hL, hlL x (List.mem_cons_self ..), hpt, rfl⟩
          have hwx : wb[x.toNat]? = some (some p) := by
            rw [hw _ (by rw [b1, a1]; simp), b3 _ (hon.2.1 _ hx1), a3 _ hx1, List.getElem?_set_self (by rw [hS.wl]; exact hxn)]
          have hpm := hS.pm
          obtain ⟨ip, hip⟩ := List.getElem?_of_mem hpm
          have hipl := (List.getElem?_eq_some_iff.1 hip).1
          have upx : ∀ a, Up wb a x.toNat → a = x.toNat ∨ Up wb a p := fun a ha => ha.inv hwx
          have D1 : DfI g wb ⟨d.shut.set x.toNat true, d.wby.set x.toNat (some p), d.met ++ [x.toNat], d.left⟩ x.toNat := by
            refine ⟨hl', by simp [hS.wl], fun q => ?_, ?_, fun i y hi => ?_, fun i j k a c v hij hjk hi hj hk hu => ?_, fun i j a c hi hj hij hu => ?_, by simp, fun y hy b hb => ?_⟩
            · constructor
              · intro hq
                rcases set_true hq with e | e
                · exact List.mem_append_left _ ((hS.ms q).1 e)
                · rw [e]; simp
              · intro hq
                rcases List.mem_append.1 hq with e | e
                · exact shut_set _ _ _ ((hS.ms q).2 e)
                · rw [List.mem_singleton.1 e]; exact hx1
            · show (d.met ++ [x.toNat]).Nodup
              rw [List.nodup_append]
              refine ⟨hS.nd, by simp, fun a ha b hb e => ?_⟩
              rw [List.mem_singleton.1 hb] at e
              exact hxm (by rw [← e]; exact ha)
            · rcases at_snoc hi with ⟨_, e⟩ | ⟨e, rfl⟩
              · rcases hS.par i y e with f | ⟨z, j, f1, f2, f3, f4⟩
                · exact Or.inl f
                · exact Or.inr ⟨z, j, f1, f2, at_app f3, f4⟩
              · exact Or.inr ⟨p, ip, hwx, by omega, at_app hip, hE⟩
            · rcases at_snoc hk with ⟨ek, fk⟩ | ⟨ek, rfl⟩
              · rcases at_snoc hj with ⟨_, fj⟩ | ⟨ej, _⟩
                · rcases at_snoc hi with ⟨_, fi⟩ | ⟨ei, _⟩
                  · exact hS.a2 i j k a c v hij hjk fi fj fk hu
                  · omega
                · omega
              · rcases at_snoc hj with ⟨ej, fj⟩ | ⟨_, rfl⟩
                · rcases at_snoc hi with ⟨_, fi⟩ | ⟨ei, _⟩
                  · rcases upx a hu with e | e
                    · exact absurd (List.mem_of_getElem? fi) (by rw [e]; exact hxm)
                    · exact hS.S i j a c fi fj hij e
                  · omega
                · exact hu
            · rcases at_snoc hj with ⟨ej, fj⟩ | ⟨_, rfl⟩
              · rcases at_snoc hi with ⟨_, fi⟩ | ⟨ei, _⟩
                · rcases upx a hu with e | e
                  · exact absurd (List.mem_of_getElem? fi) (by rw [e]; exact hxm)
                  · exact hS.S i j a c fi fj hij e
                · omega
              · exact hu
            · obtain ⟨i, j, e1, e2, e3⟩ := hS.lf y hy b hb
              exact ⟨i, j, at_app e1, at_app e2, e3⟩
          have hms1 := a4 (fun q hq => (D1.ms q).2 hq)
          have D2 := dScan_dfs g wb k _ _ _ _ h1 (fun q hq => by
            have hq2 : q ∈ d2.met := by rw [b1]; exact List.mem_append_left _ hq
            rw [hw q hq2, b3 q (hms1 q hq)]) D1 ⟨Lx, hLx, fun y hy => hy⟩
          have D3 : DfI g wb ⟨d1.shut, d1.wby, d1.met, d1.left ++ [x.toNat]⟩ p := by
            refine ⟨D2.len, D2.wl, D2.ms, D2.nd, D2.par, D2.a2, fun i j a c hi hj hij hu => D2.S i j a c hi hj hij (.step hu hwx), ?_, fun y hy b hb => ?_⟩
            · show p ∈ d1.met
              rw [a1]
              simp [hpm]
            · rcases List.mem_append.1 hy with e | e
              · exact D2.lf y e b hb
              · rw [List.mem_singleton.1 e] at hb ⊢
                obtain ⟨i, hi⟩ := List.getElem?_of_mem D2.pm
                obtain ⟨Lb, z, hLb, hz, hzp, rfl⟩ := hb
                rw [hLx] at hLb
                injection hLb with hLb
                subst hLb
                obtain ⟨j, hj⟩ := List.getElem?_of_mem ((D2.ms _).1 (hon.2.2.1 z hz hzp))
                exact ⟨i, j, hi, hj, fun hij => D2.S i j _ _ hi hj (by omega) .refl⟩
          exact dScan_dfs g wb k _ _ _ _ h hw D3 hrL
    · exact dScan_dfs g wb k _ _ _ _ h hw hS hrL

/-- The tree of the walk through all that is come to. -/
structure DfsF (g : List (List Int)) (M : List Nat) (wb : List (Option Nat)) : Prop where
  nd : M.Nodup
  lt : ∀ x ∈ M, x < g.length
  zero : M[0]? = some 0
  root : wb[0]? = some none
  par : ∀ (i x : Nat), M[i]? = some x → i = 0 ∨ ∃ y j, wb[x]? = some (some y) ∧ j < i ∧ M[j]? = some y ∧ EdgG g y x
  a2 : ∀ (i j k a c v : Nat), i ≤ j → j ≤ k → M[i]? = some a → M[j]? = some c → M[k]? = some v → Up wb a v → Up wb a c
  ed : ∀ (i x b : Nat), M[i]? = some x → EdgG g x b → ∃ j : Nat, M[j]? = some b ∧ (i < j → Up wb x b)
theorem gWalk_dfs (g : List (List Int)) (K : Nat) (F : GW) (hn : g.length ≠ 0) (h : gWalk g K = some F) : DfsF g F.met F.wby ∧ (∀ q : Nat, F.shut[q]? = some true ↔ q ∈ F.met) ∧ WLen g.length F := by
  obtain ⟨k, d2, e1, e2, e3⟩ := gWalk_d g K F hn h
  have hl0 : (gNew g.length).gd.shut.length = g.length := by simp [gNew, GW.gd]
  have hz : ∀ q : Nat, (gNew g.length).gd.shut[q]? ≠ some true := fun q hq => by
    simp [gNew, GW.gd, List.getElem?_replicate] at hq
  have h00 : (List.replicate g.length false).length = g.length := by simp
  have hg := dFrom_good g (List.replicate g.length false) h00 k _ _ 0 e1 ⟨hl0, fun q hq => hq, fun i a h => by simp [GW.gd, gNew] at h, fun q h => by simp [GW.gd, gNew] at h, by simp [GW.gd, gNew]⟩ (fun q hq => absurd hq (hz q)) (by show (List.replicate _ _)[0]? = _; rw [List.getElem?_replicate, if_pos (by omega)])
  have hall : ∀ q : Nat, d2.shut[q]? = some true → q ∈ d2.left := fun q hq => hg.2.1 q hq (by
    have := (List.getElem?_eq_some_iff.1 hq).1
    rw [hg.1.len] at this
    rw [List.getElem?_replicate, if_pos this])
  unfold dFrom at e1
  split at e1
  · cases e1
  · rename_i L hL
    split at e1
    · cases e1
    · rename_i d1 h1
      injection e1 with e1
      have hl1 : ((List.replicate g.length false).set 0 true).length = g.length := by simp
      have h01 : ((List.replicate g.length false).set 0 true)[0]? = some true := by rw [List.getElem?_set_self (by simp; omega)]
      obtain ⟨⟨n1, a1⟩, a2, a3, a4⟩ := dScan_keep g k _ _ _ _ h1 hl1
      have hwr : d1.wby[0]? = some none := by
        rw [a3 0 h01]
        show (List.replicate _ _)[0]? = _
        rw [List.getElem?_replicate, if_pos (by omega)]
      have met1 : ∀ (i x : Nat), ([0] : List Nat)[i]? = some x → i = 0 ∧ x = 0 := fun i x hi => by
        have := (List.getElem?_eq_some_iff.1 hi).1
        simp at this
        subst this
        simp at hi
        exact ⟨rfl, hi.symm⟩
      have D1 : DfI g d1.wby ⟨(List.replicate g.length false).set 0 true, List.replicate g.length none, [] ++ [0], []⟩ 0 := by
        refine ⟨hl1, by simp, fun q => ?_, by simp, fun i x hi => Or.inl (met1 i x hi).1, fun i j k a c v hij hjk hi hj hk hu => ?_, fun i j a c hi hj hij hu => ?_, by simp, fun x hx => by (cases hx)⟩
        · constructor
          · intro hq
            rcases set_true hq with e | e
            · rw [List.getElem?_replicate] at e
              split at e
              · injection e with e; cases e
              · cases e
            · rw [e]; simp
          · intro hq
            have hq : q ∈ [0] := hq
            rw [List.mem_singleton.1 hq]
            exact h01
        · rw [(met1 i a hi).2, (met1 j c hj).2]; exact .refl
        · rw [(met1 i a hi).2, (met1 j c hj).2]; exact .refl
      have D2 := dScan_dfs g d1.wby k _ _ _ _ h1 (fun q _ => rfl) D1 ⟨L, hL, fun y hy => hy⟩
      have hFm : F.met = d1.met := by
        have : F.gd.met = d1.met := by rw [e2, ← e1]
        exact this
      have hFw : F.wby = d1.wby := by
        have : F.gd.wby = d1.wby := by rw [e2, ← e1]
        exact this
      have hFs : F.shut = d1.shut := by
        have : F.gd.shut = d1.shut := by rw [e2, ← e1]
        exact this
      have hd2 : d2.shut = d1.shut ∧ d2.left = d1.left ++ [0] := by rw [← e1]; exact ⟨rfl, rfl⟩
      rw [hFm, hFw, hFs]
      have hlt : ∀ x ∈ d1.met, x < g.length := fun x hx => by
        have := (List.getElem?_eq_some_iff.1 ((D2.ms x).2 hx)).1
        rw [D2.len] at this
        exact this
      have hm0 : d1.met[0]? = some 0 := by rw [a1]; rfl
      refine ⟨⟨D2.nd, hlt, hm0, hwr, D2.par, D2.a2, fun i x b hi hb => ?_⟩, D2.ms, e3⟩
      have hxl : x ∈ d1.left ++ [0] := by
        have := hall x (by rw [hd2.1]; exact (D2.ms x).2 (List.mem_of_getElem? hi))
        rw [hd2.2] at this
        exact this
      rcases List.mem_append.1 hxl with e | e
      · obtain ⟨i2, j, f1, f2, f3⟩ := D2.lf x e b hb
        obtain rfl := nd_inj D2.nd f1 hi
        exact ⟨j, f2, f3⟩
      · have hx0 := List.mem_singleton.1 e
        subst hx0
        obtain ⟨Lb, z, hLb, hz2, hzp, rfl⟩ := hb
        rw [hL] at hLb
        injection hLb with hLb
        subst hLb
        have hon := dScan_on g k _ _ _ _ h1 hl1
        obtain ⟨j, hj⟩ := List.getElem?_of_mem ((D2.ms _).1 (hon.2.2.1 z hz2 hzp))
        exact ⟨j, hj, fun hij => D2.S i j _ _ hi hj (by omega) .refl⟩
end Go.Proofs.Ytmhcecofknemkaa
