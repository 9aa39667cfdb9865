/- Plain: the walk's tree: numbers, the way up, what an edge to a greater number tells. -/
import Derived.Test.YtpfjafjpijmckaaGrCa
import Derived.Test.YtpfjafjpijmckaaGrCb
import Derived.Test.YtpfjafjpijmckaaGrRn
import Derived.Test.YtpfjafjpijmckaaGrOr
set_option linter.unusedSimpArgs false
set_option linter.unusedVariables false
namespace Go.Proofs.Ytpfjafjpijmckaa
open Go.RowKit

/-- a stands on the way up from a point, or is it. -/
inductive Up (wb : List (Option Nat)) (a : Nat) : Nat → Prop
  | refl : Up wb a a
  | step {x y : Nat} : Up wb a y → wb[x]? = some (some y) → Up wb a x
theorem Up.trans {wb : List (Option Nat)} {a b c : Nat} (h : Up wb a b) (k : Up wb b c) : Up wb a c := by
  induction k with
  | refl => exact h
  | step _ e ih => exact .step ih e
theorem Up.inv {wb : List (Option Nat)} {a x y : Nat} (h : Up wb a x) (e : wb[x]? = some (some y)) : a = x ∨ Up wb a y := by
  cases h with
  | refl => exact Or.inl rfl
  | step k f =>
    rw [e] at f
    injection f with f
    injection f with f
    subst f
    exact Or.inr k
theorem Rch.mono {R R' : Nat → Nat → Prop} (h : ∀ a b, R a b → R' a b) {a b : Nat} (k : Rch R a b) : Rch R' a b := by
  induction k with
  | nil => exact .nil
  | step _ e ih => exact .step ih (h _ _ e)
def EdgG (g : List (List Int)) (a b : Nat) : Prop := ∃ L x, g[a]? = some L ∧ x ∈ L ∧ gPt g.length x = true ∧ x.toNat = b

theorem dScan_keep (g : List (List Int)) : ∀ (k : Nat) (d : GD) (p : Nat) (l : List Int) (d2 : GD), dScan g k d p l = some d2 → d.shut.length = g.length → (∃ new, d2.met = d.met ++ new) ∧ d2.wby.length = d.wby.length ∧ (∀ q : Nat, d.shut[q]? = some true → d2.wby[q]? = d.wby[q]?) ∧ ((∀ q ∈ d.met, d.shut[q]? = some true) → ∀ q ∈ d2.met, d2.shut[q]? = some true)
  | 0, d, p, l, d2, h, hl => by rw [dScan] at h; cases h
  | k + 1, d, p, [], d2, h, hl => by
    rw [dScan] at h
    injection h with h
    subst h
    exact ⟨⟨[], by simp⟩, rfl, fun q _ => rfl, fun h => h⟩
  | k + 1, d, p, x :: r, d2, h, hl => by
    rw [dScan] at h
    split at h
    · rename_i hx
      obtain ⟨hxs, hxn, hx00⟩ := gOk_lt hx
      split at h
      · cases h
      · split at h
        · cases h
        · rename_i d1 h1
          have hon := dScan_on g k _ _ _ _ h1 (by simp [hl])
          obtain ⟨⟨n1, a1⟩, a2, a3, a4⟩ := dScan_keep g k _ _ _ _ h1 (by simp [hl])
          obtain ⟨⟨n2, b1⟩, b2, b3, b4⟩ := dScan_keep g k _ _ _ _ h hon.1
          simp only at a1 a2 a3 a4 b1 b2 b3 b4
          refine ⟨⟨x.toNat :: n1 ++ n2, by rw [b1, a1]; simp⟩, by rw [b2, a2]; simp, fun q hq => ?_, fun hm => b4 (a4 (fun q hq => ?_))⟩
          · rw [b3 q (hon.2.1 q (shut_set _ _ _ hq)), a3 q (shut_set _ _ _ hq), List.getElem?_set, if_neg]
            rintro rfl
            rw [hxs] at hq
            cases hq
          · rcases List.mem_append.1 hq with e | e
            · exact shut_set _ _ _ (hm q e)
            · rw [List.mem_singleton.1 e, List.getElem?_set]; simp [hl, hxn]
    · exact dScan_keep g k _ _ _ _ h hl

theorem at_app {l new : List Nat} {i x : Nat} (h : l[i]? = some x) : (l ++ new)[i]? = some x := by
  rw [List.getElem?_append_left (List.getElem?_eq_some_iff.1 h).1]; exact h
theorem at_snoc {l : List Nat} {i x y : Nat} (h : (l ++ [y])[i]? = some x) : (i < l.length ∧ l[i]? = some x) ∨ (i = l.length ∧ x = y) := by
  by_cases hi : i < l.length
  · rw [List.getElem?_append_left hi] at h
    exact Or.inl ⟨hi, h⟩
  · have := (List.getElem?_eq_some_iff.1 h).1
    rw [List.length_append] at this
    simp only [List.length_cons, List.length_nil] at this
    have e : i = l.length := by omega
    subst e
    rw [List.getElem?_append_right (Nat.le_refl _), Nat.sub_self] at h
    exact Or.inr ⟨rfl, by simpa using h.symm⟩
theorem nd_inj {l : List Nat} (h : l.Nodup) {i j x : Nat} (hi : l[i]? = some x) (hj : l[j]? = some x) : i = j := by
  have h1 := List.getElem?_eq_some_iff.1 hi
  have h2 := List.getElem?_eq_some_iff.1 hj
  exact (List.getElem_inj h).1 (h1.2.trans h2.2.symm)

structure DfI (g : List (List Int)) (wb : List (Option Nat)) (d : GD) (p : Nat) : Prop where
  len : d.shut.length = g.length
  wl : d.wby.length = g.length
  ms : ∀ q : Nat, d.shut[q]? = some true ↔ q ∈ d.met
  nd : d.met.Nodup
  par : ∀ (i x : Nat), d.met[i]? = some x → i = 0 ∨ ∃ y j, wb[x]? = some (some y) ∧ j < i ∧ d.met[j]? = some y ∧ EdgG g y x
  a2 : ∀ (i j k a c v : Nat), i ≤ j → j ≤ k → d.met[i]? = some a → d.met[j]? = some c → d.met[k]? = some v → Up wb a v → Up wb a c
  S : ∀ (i j a c : Nat), d.met[i]? = some a → d.met[j]? = some c → i ≤ j → Up wb a p → Up wb a c
  pm : p ∈ d.met
  lf : ∀ x ∈ d.left, ∀ b, EdgG g x b → ∃ i j : Nat, d.met[i]? = some x ∧ d.met[j]? = some b ∧ (i < j → Up wb x b)
  lm : ∀ x ∈ d.left, x ∈ d.met
  li : ∀ (i j h q a b : Nat), d.left[i]? = some h → d.left[j]? = some q → j ≤ i → d.met[a]? = some h → d.met[b]? = some q → a ≤ b → Up wb h q

theorem dScan_dfs (g : List (List Int)) (wb : List (Option Nat)) : ∀ (k : Nat) (d : GD) (p : Nat) (l : List Int) (d2 : GD), dScan g k d p l = some d2 → (∀ q ∈ d2.met, wb[q]? = d2.wby[q]?) → DfI g wb d p → (∃ L, g[p]? = some L ∧ ∀ x ∈ l, x ∈ L) → DfI g wb d2 p
  | 0, d, p, l, d2, h, _, _, _ => by rw [dScan] at h; cases h
  | k + 1, d, p, [], d2, h, _, hS, _ => by
    rw [dScan] at h
    injection h with h
    subst h
    exact hS
  | k + 1, d, p, x :: r, d2, h, hw, hS, ⟨L, hL, hlL⟩ => by
    rw [dScan] at h
    have hrL : ∃ L, g[p]? = some L ∧ ∀ x ∈ r, x ∈ L := ⟨L, hL, fun y hy => hlL y (List.mem_cons_of_mem _ hy)⟩
    split at h
    · rename_i hx
      obtain ⟨hxs, hxn, hx00⟩ := gOk_lt hx
      have hpt : gPt g.length x = true := by unfold gOk at hx; simp only [Bool.and_eq_true] at hx; exact hx.1
      split at h
      · cases h
      · rename_i Lx hLx
        split at h
        · cases h
        · rename_i d1 h1
          have hl' : (d.shut.set x.toNat true).length = g.length := by simp [hS.len]
          have hon := dScan_on g k _ _ _ _ h1 hl'
          obtain ⟨⟨n1, a1⟩, a2, a3, a4⟩ := dScan_keep g k _ _ _ _ h1 hl'
          obtain ⟨⟨n2, b1⟩, b2, b3, _⟩ := dScan_keep g k _ _ _ _ h hon.1
          simp only at a1 a2 a3 a4 b1 b2 b3
          have hx1 : (d.shut.set x.toNat true)[x.toNat]? = some true := by rw [List.getElem?_set]; simp [hS.len, hxn]
          have hxm : x.toNat ∉ d.met := fun hm => by rw [(hS.ms _).2 hm] at hxs; cases hxs
          have hE : EdgG g p x.toNat := ⟨L, x, hL, hlL x (List.mem_cons_self ..), hpt, rfl⟩
          have hwx : wb[x.toNat]? = some (some p) := by
            rw [hw _ (by rw [b1, a1]; simp), b3 _ (hon.2.1 _ hx1), a3 _ hx1, List.getElem?_set_self (by rw [hS.wl]; exact hxn)]
          have hpm := hS.pm
          obtain ⟨ip, hip⟩ := List.getElem?_of_mem hpm
          have hipl := (List.getElem?_eq_some_iff.1 hip).1
          have upx : ∀ a, Up wb a x.toNat → a = x.toNat ∨ Up wb a p := fun a ha => ha.inv hwx
          have D1 : DfI g wb ⟨d.shut.set x.toNat true, d.wby.set x.toNat (some p), d.met ++ [x.toNat], d.left⟩ x.toNat := by
            refine ⟨hl', by simp [hS.wl], fun q => ?_, ?_, fun i y hi => ?_, fun i j k a c v hij hjk hi hj hk hu => ?_, fun i j a c hi hj hij hu => ?_, by simp, fun y hy b hb => ?_, fun y hy => List.mem_append_left _ (hS.lm y hy), fun i j h q a b hi hj hij ha hb hab => ?_⟩
            · constructor
              · intro hq
                rcases set_true hq with e | e
                · exact List.mem_append_left _ ((hS.ms q).1 e)
                · rw [e]; simp
              · intro hq
                rcases List.mem_append.1 hq with e | e
                · exact shut_set _ _ _ ((hS.ms q).2 e)
                · rw [List.mem_singleton.1 e]; exact hx1
            · show (d.met ++ [x.toNat]).Nodup
              rw [List.nodup_append]
              refine ⟨hS.nd, by simp, fun a ha b hb e => ?_⟩
              rw [List.mem_singleton.1 hb] at e
              exact hxm (by rw [← e]; exact ha)
            · rcases at_snoc hi with ⟨_, e⟩ | ⟨e, rfl⟩
              · rcases hS.par i y e with f | ⟨z, j, f1, f2, f3, f4⟩
                · exact Or.inl f
                · exact Or.inr ⟨z, j, f1, f2, at_app f3, f4⟩
              · exact Or.inr ⟨p, ip, hwx, by omega, at_app hip, hE⟩
            · rcases at_snoc hk with ⟨ek, fk⟩ | ⟨ek, rfl⟩
              · rcases at_snoc hj with ⟨_, fj⟩ | ⟨ej, _⟩
                · rcases at_snoc hi with ⟨_, fi⟩ | ⟨ei, _⟩
                  · exact hS.a2 i j k a c v hij hjk fi fj fk hu
                  · omega
                · omega
              · rcases at_snoc hj with ⟨ej, fj⟩ | ⟨_, rfl⟩
                · rcases at_snoc hi with ⟨_, fi⟩ | ⟨ei, _⟩
                  · rcases upx a hu with e | e
                    · exact absurd (List.mem_of_getElem? fi) (by rw [e]; exact hxm)
                    · exact hS.S i j a c fi fj hij e
                  · omega
                · exact hu
            · rcases at_snoc hj with ⟨ej, fj⟩ | ⟨_, rfl⟩
              · rcases at_snoc hi with ⟨_, fi⟩ | ⟨ei, _⟩
                · rcases upx a hu with e | e
                  · exact absurd (List.mem_of_getElem? fi) (by rw [e]; exact hxm)
                  · exact hS.S i j a c fi fj hij e
                · omega
              · exact hu
            · obtain ⟨i, j, e1, e2, e3⟩ := hS.lf y hy b hb
              exact ⟨i, j, at_app e1, at_app e2, e3⟩
            · obtain ⟨a2, ha2⟩ := List.getElem?_of_mem (hS.lm h (List.mem_of_getElem? hi))
              obtain ⟨b2, hb2⟩ := List.getElem?_of_mem (hS.lm q (List.mem_of_getElem? hj))
              have hndd : (d.met ++ [x.toNat]).Nodup := by
                rw [List.nodup_append]
                refine ⟨hS.nd, by simp, fun a ha b hb e => ?_⟩
                rw [List.mem_singleton.1 hb] at e
                exact hxm (by rw [← e]; exact ha)
              have e1 : a = a2 := nd_inj hndd ha (at_app ha2)
              have e2 : b = b2 := nd_inj hndd hb (at_app hb2)
              exact hS.li i j h q a2 b2 hi hj hij ha2 hb2 (by omega)
          have hms1 := a4 (fun q hq => (D1.ms q).2 hq)
          have D2 := dScan_dfs g wb k _ _ _ _ h1 (fun q hq => by
            have hq2 : q ∈ d2.met := by rw [b1]; exact List.mem_append_left _ hq
            rw [hw q hq2, b3 q (hms1 q hq)]) D1 ⟨Lx, hLx, fun y hy => hy⟩
          have D3 : DfI g wb ⟨d1.shut, d1.wby, d1.met, d1.left ++ [x.toNat]⟩ p := by
            refine ⟨D2.len, D2.wl, D2.ms, D2.nd, D2.par, D2.a2, fun i j a c hi hj hij hu => D2.S i j a c hi hj hij (.step hu hwx), ?_, fun y hy b hb => ?_, fun y hy => ?_, fun i j h q a b hi hj hij ha hb hab => ?_⟩
            · show p ∈ d1.met
              rw [a1]
              simp [hpm]
            · rcases List.mem_append.1 hy with e | e
              · exact D2.lf y e b hb
              · rw [List.mem_singleton.1 e] at hb ⊢
                obtain ⟨i, hi⟩ := List.getElem?_of_mem D2.pm
                obtain ⟨Lb, z, hLb, hz, hzp, rfl⟩ := hb
                rw [hLx] at hLb
                injection hLb with hLb
                subst hLb
                obtain ⟨j, hj⟩ := List.getElem?_of_mem ((D2.ms _).1 (hon.2.2.1 z hz hzp))
                exact ⟨i, j, hi, hj, fun hij => D2.S i j _ _ hi hj (by omega) .refl⟩
            · rcases List.mem_append.1 hy with e | e
              · exact D2.lm y e
              · rw [List.mem_singleton.1 e]; exact D2.pm
            · rcases at_snoc hi with ⟨ei, fi⟩ | ⟨ei, rfl⟩
              · rcases at_snoc hj with ⟨_, fj⟩ | ⟨ej, _⟩
                · exact D2.li i j h q a b fi fj hij ha hb hab
                · omega
              · exact D2.S a b _ q ha hb hab .refl
          exact dScan_dfs g wb k _ _ _ _ h hw D3 hrL
    · exact dScan_dfs g wb k _ _ _ _ h hw hS hrL

/-- The tree of the walk through all that is come to. -/
structure DfsF (g : List (List Int)) (M : List Nat) (wb : List (Option Nat)) : Prop where
  nd : M.Nodup
  lt : ∀ x ∈ M, x < g.length
  zero : M[0]? = some 0
  root : wb[0]? = some none
  par : ∀ (i x : Nat), M[i]? = some x → i = 0 ∨ ∃ y j, wb[x]? = some (some y) ∧ j < i ∧ M[j]? = some y ∧ EdgG g y x
  a2 : ∀ (i j k a c v : Nat), i ≤ j → j ≤ k → M[i]? = some a → M[j]? = some c → M[k]? = some v → Up wb a v → Up wb a c
  ed : ∀ (i x b : Nat), M[i]? = some x → EdgG g x b → ∃ j : Nat, M[j]? = some b ∧ (i < j → Up wb x b)
theorem gWalk_dfl (g : List (List Int)) (K : Nat) (F : GW) (hn : g.length ≠ 0) (h : gWalk g K = some F) : (DfsF g F.met F.wby ∧ (∀ q : Nat, F.shut[q]? = some true ↔ q ∈ F.met) ∧ WLen g.length F) ∧ (∀ q, q ∈ F.left ↔ q ∈ F.met) ∧ F.left.Nodup ∧ (∀ (i a : Nat), F.left[i]? = some a → ∀ b, EdgG g a b → (∃ j : Nat, j < i ∧ F.left[j]? = some b) ∨ Rch (EdgG g) b a) ∧
    ∀ (i j h q a b : Nat), F.left[i]? = some h → F.left[j]? = some q → j ≤ i → F.met[a]? = some h → F.met[b]? = some q → a ≤ b → Up F.wby h q := by
  obtain ⟨k, d2, e1, e2, e3⟩ := gWalk_d g K F hn h
  have hl0 : (gNew g.length).gd.shut.length = g.length := by simp [gNew, GW.gd]
  have hz : ∀ q : Nat, (gNew g.length).gd.shut[q]? ≠ some true := fun q hq => by
    simp [gNew, GW.gd, List.getElem?_replicate] at hq
  have h00 : (List.replicate g.length false).length = g.length := by simp
  have hg := dFrom_good g (List.replicate g.length false) h00 k _ _ 0 e1 ⟨hl0, fun q hq => hq, fun i a h => by simp [GW.gd, gNew] at h, fun q h => by simp [GW.gd, gNew] at h, by simp [GW.gd, gNew]⟩ (fun q hq => absurd hq (hz q)) (by show (List.replicate _ _)[0]? = _; rw [List.getElem?_replicate, if_pos (by omega)])
  have hall : ∀ q : Nat, d2.shut[q]? = some true → q ∈ d2.left := fun q hq => hg.2.1 q hq (by
    have := (List.getElem?_eq_some_iff.1 hq).1
    rw [hg.1.len] at this
    rw [List.getElem?_replicate, if_pos this])
  unfold dFrom at e1
  split at e1
  · cases e1
  · rename_i L hL
    split at e1
    · cases e1
    · rename_i d1 h1
      injection e1 with e1
      have hl1 : ((List.replicate g.length false).set 0 true).length = g.length := by simp
      have h01 : ((List.replicate g.length false).set 0 true)[0]? = some true := by rw [List.getElem?_set_self (by simp; omega)]
      obtain ⟨⟨n1, a1⟩, a2, a3, a4⟩ := dScan_keep g k _ _ _ _ h1 hl1
      have hwr : d1.wby[0]? = some none := by
        rw [a3 0 h01]
        show (List.replicate _ _)[0]? = _
        rw [List.getElem?_replicate, if_pos (by omega)]
      have met1 : ∀ (i x : Nat), ([0] : List Nat)[i]? = some x → i = 0 ∧ x = 0 := fun i x hi => by
        have := (List.getElem?_eq_some_iff.1 hi).1
        simp at this
        subst this
        simp at hi
        exact ⟨rfl, hi.symm⟩
      have D1 : DfI g d1.wby ⟨(List.replicate g.length false).set 0 true, List.replicate g.length none, [] ++ [0], []⟩ 0 := by
        refine ⟨hl1, by simp, fun q => ?_, by simp, fun i x hi => Or.inl (met1 i x hi).1, fun i j k a c v hij hjk hi hj hk hu => ?_, fun i j a c hi hj hij hu => ?_, by simp, fun x hx => by (cases hx), fun x hx => by (cases hx), fun i j h q a b hi => by simp at hi⟩
        · constructor
          · intro hq
            rcases set_true hq with e | e
            · rw [List.getElem?_replicate] at e
              split at e
              · injection e with e; cases e
              · cases e
            · rw [e]; simp
          · intro hq
            have hq : q ∈ [0] := hq
            rw [List.mem_singleton.1 hq]
            exact h01
        · rw [(met1 i a hi).2, (met1 j c hj).2]; exact .refl
        · rw [(met1 i a hi).2, (met1 j c hj).2]; exact .refl
      have D2 := dScan_dfs g d1.wby k _ _ _ _ h1 (fun q _ => rfl) D1 ⟨L, hL, fun y hy => hy⟩
      have hFm : F.met = d1.met := by
        have : F.gd.met = d1.met := by rw [e2, ← e1]
        exact this
      have hFw : F.wby = d1.wby := by
        have : F.gd.wby = d1.wby := by rw [e2, ← e1]
        exact this
      have hFs : F.shut = d1.shut := by
        have : F.gd.shut = d1.shut := by rw [e2, ← e1]
        exact this
      have hd2 : d2.shut = d1.shut ∧ d2.left = d1.left ++ [0] := by rw [← e1]; exact ⟨rfl, rfl⟩
      rw [hFm, hFw, hFs]
      have hlt : ∀ x ∈ d1.met, x < g.length := fun x hx => by
        have := (List.getElem?_eq_some_iff.1 ((D2.ms x).2 hx)).1
        rw [D2.len] at this
        exact this
      have hm0 : d1.met[0]? = some 0 := by rw [a1]; rfl
      have hFl : F.left = d1.left ++ [0] := by
        have : F.gd.left = d1.left ++ [0] := by rw [e2, ← e1]
        exact this
      rw [hFl]
      refine ⟨⟨⟨D2.nd, hlt, hm0, hwr, D2.par, D2.a2, fun i x b hi hb => ?_⟩, D2.ms, e3⟩, fun q => ?_, ?_, ?_, ?_⟩
      · have hxl : x ∈ d1.left ++ [0] := by
          have := hall x (by rw [hd2.1]; exact (D2.ms x).2 (List.mem_of_getElem? hi))
          rw [hd2.2] at this
          exact this
        rcases List.mem_append.1 hxl with e | e
        · obtain ⟨i2, j, f1, f2, f3⟩ := D2.lf x e b hb
          obtain rfl := nd_inj D2.nd f1 hi
          exact ⟨j, f2, f3⟩
        · have hx0 := List.mem_singleton.1 e
          subst hx0
          obtain ⟨Lb, z, hLb, hz2, hzp, rfl⟩ := hb
          rw [hL] at hLb
          injection hLb with hLb
          subst hLb
          have hon := dScan_on g k _ _ _ _ h1 hl1
          obtain ⟨j, hj⟩ := List.getElem?_of_mem ((D2.ms _).1 (hon.2.2.1 z hz2 hzp))
          exact ⟨j, hj, fun hij => D2.S i j _ _ hi hj (by omega) .refl⟩
      · constructor
        · intro hq
          rcases List.mem_append.1 hq with e | e
          · exact D2.lm q e
          · rw [List.mem_singleton.1 e]; exact List.mem_of_getElem? hm0
        · intro hq
          have := hall q (by rw [hd2.1]; exact (D2.ms q).2 hq)
          rw [hd2.2] at this
          exact this
      · have := hg.1.nd
        rw [hd2.2] at this
        exact this
      · intro i a hi b hb
        have hgd := hg.1.gd
        rw [hd2.2] at hgd
        have hedg : ∀ c d, EdgG g c d → Edg g (List.replicate g.length false) c d := by
          rintro c d ⟨L', x, q1, q2, q3, q4⟩
          refine ⟨L', x, q1, q2, q3, q4, ?_, ?_⟩
          · rw [List.getElem?_replicate, if_pos (List.getElem?_eq_some_iff.1 q1).1]
          · rw [List.getElem?_replicate, if_pos (by rw [← q4]; unfold gPt at q3; simp at q3; omega)]
        have hedg2 : ∀ c d, Edg g (List.replicate g.length false) c d → EdgG g c d := by
          rintro c d ⟨L', x, q1, q2, q3, q4, _, _⟩
          exact ⟨L', x, q1, q2, q3, q4⟩
        rcases hgd i a hi b (hedg a b hb) with ⟨j, j1, j2⟩ | e
        · exact Or.inl ⟨j, j1, j2⟩
        · exact Or.inr (Rch.mono hedg2 e)
      · intro i j h q a b hi hj hij ha hb hab
        rcases at_snoc hi with ⟨ei, fi⟩ | ⟨ei, rfl⟩
        · rcases at_snoc hj with ⟨_, fj⟩ | ⟨ej, _⟩
          · exact D2.li i j h q a b fi fj hij ha hb hab
          · omega
        · exact D2.S a b _ q ha hb hab .refl
theorem gWalk_dfs (g : List (List Int)) (K : Nat) (F : GW) (hn : g.length ≠ 0) (h : gWalk g K = some F) : DfsF g F.met F.wby ∧ (∀ q : Nat, F.shut[q]? = some true ↔ q ∈ F.met) ∧ WLen g.length F := (gWalk_dfl g K F hn h).1
end Go.Proofs.Ytpfjafjpijmckaa

/- Plain: what climbOf finds: the entries, each made of those of greater numbers. -/
set_option linter.unusedSimpArgs false
set_option linter.unusedVariables false
namespace Go.Proofs.Ytpfjafjpijmckaa
open Go.RowKit

def UpN (M : List Nat) (wb : List (Option Nat)) (i j : Nat) : Prop := ∃ a b, M[i]? = some a ∧ M[j]? = some b ∧ Up wb a b

section
variable {g : List (List Int)} {M : List Nat} {wb : List (Option Nat)}
theorem DfsF.le (D : DfsF g M wb) {a b : Nat} (h : Up wb a b) : ∀ {i j : Nat}, M[i]? = some a → M[j]? = some b → i ≤ j := by
  induction h with
  | refl => intro i j hi hj; rw [nd_inj D.nd hi hj]; exact Nat.le_refl _
  | @step x y k e ih =>
    intro i j hi hj
    rcases D.par j x hj with f | ⟨y2, j2, f1, f2, f3, _⟩
    · subst f
      rw [D.zero] at hj
      injection hj with hj
      subst hj
      rw [D.root] at e
      cases e
    · rw [e] at f1
      injection f1 with f1
      injection f1 with f1
      subst f1
      have := ih hi f3
      omega
theorem UpN.le {i j : Nat} (h : UpN M wb i j) (D : DfsF g M wb) : i ≤ j := by
  obtain ⟨a, b, h1, h2, h3⟩ := h
  exact D.le h3 h1 h2
theorem UpN.refl {j : Nat} (h : j < M.length) : UpN M wb j j := ⟨_, _, List.getElem?_eq_getElem h, List.getElem?_eq_getElem h, .refl⟩
theorem UpN.trans {i j k : Nat} (h : UpN M wb i j) (k : UpN M wb j k) : UpN M wb i ‹Nat› := by
  obtain ⟨a, b, h1, h2, h3⟩ := h
  obtain ⟨c, d, k1, k2, k3⟩ := k
  rw [h2] at k1
  injection k1 with k1
  subst k1
  exact ⟨a, d, h1, k2, h3.trans k3⟩
theorem UpN.mid {i j k : Nat} (h : UpN M wb i k) (D : DfsF g M wb) (h1 : i ≤ j) (h2 : j ≤ k) : UpN M wb i j := by
  obtain ⟨a, v, e1, e2, e3⟩ := h
  have hj : j < M.length := by have := (List.getElem?_eq_some_iff.1 e2).1; omega
  exact ⟨a, _, e1, List.getElem?_eq_getElem hj, D.a2 i j k a _ v h1 h2 e1 (List.getElem?_eq_getElem hj) e2 e3⟩
theorem DfsF.up (D : DfsF g M wb) {j x : Nat} (hx : M[j]? = some x) (h0 : 0 < j) : ∃ y u, wb[x]? = some (some y) ∧ M[u]? = some y ∧ u < j ∧ EdgG g y x ∧ UpN M wb u j ∧ ∀ i, UpN M wb i j → i = j ∨ UpN M wb i u := by
  rcases D.par j x hx with f | ⟨y, u, f1, f2, f3, f4⟩
  · omega
  · refine ⟨y, u, f1, f3, f2, f4, ⟨y, x, f3, hx, .step .refl f1⟩, fun i hi => ?_⟩
    obtain ⟨a, b, e1, e2, e3⟩ := hi
    rw [hx] at e2
    injection e2 with e2
    subst e2
    rcases e3.inv f1 with e | e
    · subst e; exact Or.inl (nd_inj D.nd e1 hx)
    · exact Or.inr ⟨a, y, e1, f3, e⟩
end

def LowR (M : List Nat) (wb : List (Option Nat)) (ent : List Nat) (u x lo : Nat) : Prop := (∀ y e : Nat, UpN M wb y x → u < y → ent[y]? = some e → lo ≤ e) ∧ ∃ y : Nat, UpN M wb y x ∧ u < y ∧ ent[y]? = some lo
structure ClI (M : List Nat) (wb : List (Option Nat)) (n : Nat) (up low ent : List Nat) : Prop where
  lu : up.length = M.length
  ll : low.length = M.length
  le : ent.length = M.length
  ok : ∀ x : Nat, n < x → x < M.length → ∃ u lo : Nat, up[x]? = some u ∧ low[x]? = some lo ∧ u < x ∧ UpN M wb u x ∧ (∀ y, UpN M wb y x → u < y → n < y) ∧ LowR M wb ent u x lo
/-- A way up, from its top. -/
def ChW (n N : Nat) (up : List Nat) : Nat → List Nat → Prop
  | _, [] => True
  | top, p :: r => up[p]? = some top ∧ n < p ∧ p < N ∧ ChW n N up p r
theorem ChW.gt {n N : Nat} {up : List Nat} (h : ∀ x u : Nat, up[x]? = some u → n < x → x < N → u < x) : ∀ (W : List Nat) (top : Nat), ChW n N up top W → ∀ q ∈ W, top < q
  | [], top, _, q, hq => by cases hq
  | p :: r, top, hc, q, hq => by
    have h1 := h p top hc.1 hc.2.1 hc.2.2.1
    rcases List.mem_cons.1 hq with e | e
    · rw [e]; exact h1
    · exact Nat.lt_trans h1 (ChW.gt h r p hc.2.2.2 q e)
theorem ChW.set {n N : Nat} {up : List Nat} {p v : Nat} : ∀ (W : List Nat) (top : Nat), ChW n N up top W → p ∉ W → ChW n N (up.set p v) top W
  | [], top, _, _ => trivial
  | q :: r, top, hc, hp => by
    refine ⟨?_, hc.2.1, hc.2.2.1, ChW.set r q hc.2.2.2 (fun e => hp (List.mem_cons_of_mem _ e))⟩
    rw [List.getElem?_set, if_neg (fun e => hp (by rw [e]; exact List.mem_cons_self ..))]
    exact hc.1

section
variable {g : List (List Int)} {M : List Nat} {wb : List (Option Nat)}
theorem gPress_ok (D : DfsF g M wb) (n : Nat) (ent : List Nat) : ∀ (W : List Nat) (top v : Nat) (up low : List Nat), ClI M wb n up low ent → n < top → top < M.length → up[top]? = some v → v ≤ n → ChW n M.length up top W →
    ∃ up' low', gPress W up low = some (up', low') ∧ ClI M wb n up' low' ent ∧ (∀ p ∈ W, up'[p]? = some v) ∧ (∀ q : Nat, q ∉ W → up'[q]? = up[q]?)
  | [], top, v, up, low, hC, _, _, _, _, _ => ⟨up, low, rfl, hC, fun p hp => by (cases hp), fun q _ => rfl⟩
  | p :: r, top, v, up, low, hC, ht, htN, hv, hvn, hW => by
    have hlt : ∀ x u : Nat, up[x]? = some u → n < x → x < M.length → u < x := fun x u hu h1 h2 => by
      obtain ⟨u2, _, e, _, e2, _⟩ := hC.ok x h1 h2
      rw [hu] at e
      injection e with e
      rw [e]; exact e2
    obtain ⟨hp, hpn, hpN, hr⟩ := hW
    obtain ⟨u1, a, p1, p2, p3, p4, p5, p6⟩ := hC.ok p hpn hpN
    rw [hp] at p1
    injection p1 with p1
    subst p1
    obtain ⟨v1, b, q1, q2, q3, q4, q5, q6⟩ := hC.ok top ht htN
    rw [hv] at q1
    injection q1 with q1
    subst q1
    have hpr : p ∉ r := fun hm => Nat.lt_irrefl _ (ChW.gt hlt r p hr p hm)
    have hmid : ∀ y, UpN M wb y p → y ≤ top → UpN M wb y top := fun y hy hyt => hy.mid D hyt (by omega)
    have hC1 : ClI M wb n (up.set p v) (low.set p (min a b)) ent := by
      refine ⟨by simp [hC.lu], by simp [hC.ll], hC.le, fun x hx hxN => ?_⟩
      by_cases e : p = x
      · subst e
        refine ⟨v, min a b, by rw [List.getElem?_set_self (by rw [hC.lu]; exact hpN)], by rw [List.getElem?_set_self (by rw [hC.ll]; exact hpN)], by omega, q4.trans p4, fun y hy hvy => ?_, fun y e hy hvy he => ?_, ?_⟩
        · by_cases h : top < y
          · exact p5 y hy h
          · exact q5 y (hmid y hy (by omega)) hvy
        · by_cases h : top < y
          · have := p6.1 y e hy h he; omega
          · have := q6.1 y e (hmid y hy (by omega)) hvy he; omega
        · obtain ⟨y1, f1, f2, f3⟩ := p6.2
          obtain ⟨y2, g1, g2, g3⟩ := q6.2
          by_cases h : a ≤ b
          · exact ⟨y1, f1, by omega, by rw [Nat.min_eq_left h]; exact f3⟩
          · exact ⟨y2, g1.trans p4, g2, by rw [Nat.min_eq_right (by omega)]; exact g3⟩
      · rw [List.getElem?_set, if_neg e, List.getElem?_set, if_neg e]
        exact hC.ok x hx hxN
    have hv1 : (up.set p v)[p]? = some v := by rw [List.getElem?_set_self (by rw [hC.lu]; exact hpN)]
    obtain ⟨up', low', r1, r2, r3, r4⟩ := gPress_ok D n ent r p v _ _ hC1 hpn hpN hv1 hvn (ChW.set r p hr hpr)
    refine ⟨up', low', ?_, r2, fun q hq => ?_, fun q hq => ?_⟩
    · rw [gPress, p2, hp]
      simp only [q2, hv]
      exact r1
    · rcases List.mem_cons.1 hq with e | e
      · rw [e, r4 p hpr]; exact hv1
      · exact r3 q e
    · rw [r4 q (fun e => hq (List.mem_cons_of_mem _ e)), List.getElem?_set, if_neg (fun e => hq (by rw [e]; exact List.mem_cons_self ..))]
theorem gUp_ok (n N : Nat) (up : List Nat) (hu : ∀ x : Nat, n < x → x < N → ∃ u, up[x]? = some u ∧ u < x) : ∀ (k p : Nat) (way : List Nat), n < p → p < N → p < k → ChW n N up p way.reverse →
    ∃ way' top v, gUp up n k p way = some way' ∧ ChW n N up top way'.reverse ∧ n < top ∧ top < N ∧ up[top]? = some v ∧ v ≤ n ∧ (∀ q ∈ way, q ∈ way') ∧ (p = top ∨ p ∈ way')
  | 0, p, way, _, _, hk, _ => by omega
  | k + 1, p, way, hn, hN, hk, hW => by
    obtain ⟨u, e1, e2⟩ := hu p hn hN
    rw [gUp, e1]
    simp only
    split
    · rename_i h
      obtain ⟨way', top, v, r1, r2, r3, r4, r5, r6, r7, r8⟩ := gUp_ok n N up hu k u (way ++ [p]) h (by omega) (by omega) (by rw [List.reverse_append]; exact ⟨e1, hn, hN, hW⟩)
      exact ⟨way', top, v, r1, r2, r3, r4, r5, r6, fun q hq => r7 q (List.mem_append_left _ hq), Or.inr (r7 p (by simp))⟩
    · rename_i h
      exact ⟨way, p, u, rfl, hW, hn, hN, e1, by omega, fun q hq => hq, Or.inl rfl⟩
theorem gLow_ok (D : DfsF g M wb) (K n m : Nat) (c : GC) (hC : ClI M wb n c.up c.low c.ent) (hm : n < m) (hmN : m < M.length) (hK : M.length ≤ K) :
    ∃ lo c', gLow K c m n = some (lo, c') ∧ c'.num = c.num ∧ c'.ent = c.ent ∧ ClI M wb n c'.up c'.low c'.ent ∧ (∀ q : Nat, q ≤ n → c'.up[q]? = c.up[q]?) ∧ LowR M wb c.ent n m lo := by
  obtain ⟨way, top, v, r1, r2, r3, r4, r5, r6, _, r8⟩ := gUp_ok n M.length c.up (fun x h1 h2 => by
    obtain ⟨u, _, e, _, e2, _⟩ := hC.ok x h1 h2
    exact ⟨u, e, e2⟩) K m [] hm hmN (by omega) trivial
  obtain ⟨up', low', s1, s2, s3, s4⟩ := gPress_ok D n c.ent way.reverse top v c.up c.low hC r3 r4 r5 r6 r2
  have hlt : ∀ x u : Nat, c.up[x]? = some u → n < x → x < M.length → u < x := fun x u hu h1 h2 => by
    obtain ⟨u2, _, e, _, e2, _⟩ := hC.ok x h1 h2
    rw [hu] at e
    injection e with e
    rw [e]; exact e2
  have hgt := ChW.gt hlt way.reverse top r2
  have hupm : up'[m]? = some v := by
    rcases r8 with e | e
    · rw [s4 m (fun hm2 => by have := hgt m hm2; omega), e]; exact r5
    · exact s3 m (by simpa using e)
  obtain ⟨u, lo, t1, t2, t3, t4, t5, t6⟩ := s2.ok m hm hmN
  rw [hupm] at t1
  injection t1 with t1
  subst t1
  refine ⟨lo, ⟨c.num, up', low', c.ent, way⟩, ?_, rfl, rfl, s2, fun q hq => s4 q (fun hq2 => by have := hgt q hq2; omega), fun y e hy hny he => t6.1 y e hy (by omega) he, ?_⟩
  · unfold gLow
    rw [if_neg (by omega), r1]
    simp only [s1, t2]
  · obtain ⟨y, f1, f2, f3⟩ := t6.2
    exact ⟨y, f1, t5 y f1 f2, f3⟩

def LowB (M : List Nat) (wb : List (Option Nat)) (ent : List Nat) (n m r : Nat) : Prop := (m ≤ n → r ≤ m) ∧ (n < m → ∀ y e : Nat, UpN M wb y m → n < y → ent[y]? = some e → r ≤ e)
def LowE (M : List Nat) (wb : List (Option Nat)) (ent : List Nat) (n m r : Nat) : Prop := (m ≤ n ∧ r = m) ∨ (n < m ∧ ∃ y : Nat, UpN M wb y m ∧ n < y ∧ ent[y]? = some r)
theorem LowB.le {ent : List Nat} {n m r r2 : Nat} (h : LowB M wb ent n m r) (k : r2 ≤ r) : LowB M wb ent n m r2 := ⟨fun a => Nat.le_trans k (h.1 a), fun a y e b c d => Nat.le_trans k (h.2 a y e b c d)⟩
theorem gEnt_ok (D : DfsF g M wb) (K n : Nat) (hK : M.length ≤ K) : ∀ (l : List Nat) (least : Nat) (c : GC), ClI M wb n c.up c.low c.ent → c.num = gPlaces g.length M → (∀ p ∈ l, p < g.length) →
    ∃ r c', gEnt K n l least c = some (r, c') ∧ c'.num = c.num ∧ c'.ent = c.ent ∧ ClI M wb n c'.up c'.low c'.ent ∧ (∀ q : Nat, q ≤ n → c'.up[q]? = c.up[q]?) ∧ r ≤ least ∧ (∀ p ∈ l, ∀ m : Nat, M[m]? = some p → LowB M wb c.ent n m r) ∧ (r = least ∨ ∃ p ∈ l, ∃ m : Nat, M[m]? = some p ∧ LowE M wb c.ent n m r)
  | [], least, c, hC, _, _ => ⟨least, c, rfl, rfl, rfl, hC, fun q _ => rfl, Nat.le_refl _, fun p hp => by (cases hp), Or.inl rfl⟩
  | p :: l, least, c, hC, hnum, hl => by
    have hpn := hl p (List.mem_cons_self ..)
    have hl' : ∀ q ∈ l, q < g.length := fun q hq => hl q (List.mem_cons_of_mem _ hq)
    rw [gEnt]
    by_cases hp : p ∈ M
    · obtain ⟨m, hm⟩ := List.getElem?_of_mem hp
      have hmN := (List.getElem?_eq_some_iff.1 hm).1
      have e1 : c.num[p]? = some (some m) := by rw [hnum]; exact gPlaces_at D.nd D.lt hm
      rw [e1]
      simp only
      have huniq : ∀ m2 : Nat, M[m2]? = some p → m2 = m := fun m2 h2 => nd_inj D.nd h2 hm
      by_cases hmn : m ≤ n
      · have e2 : gLow K c m n = some (m, c) := by unfold gLow; rw [if_pos hmn]
        rw [e2]
        simp only
        obtain ⟨r, c', a1, a2, a3, a4, a5, a6, a7, a8⟩ := gEnt_ok D K n hK l (min least m) c hC hnum hl'
        refine ⟨r, c', a1, a2, a3, a4, a5, by omega, fun q hq m2 h2 => ?_, ?_⟩
        · rcases List.mem_cons.1 hq with e | e
          · rw [e] at h2
            rw [huniq m2 h2]
            exact ⟨fun _ => by omega, fun h => by omega⟩
          · exact a7 q e m2 h2
        · rcases a8 with e | ⟨q, hq, m2, h2, h3⟩
          · by_cases h : least ≤ m
            · exact Or.inl (by omega)
            · exact Or.inr ⟨p, List.mem_cons_self .., m, hm, Or.inl ⟨hmn, by omega⟩⟩
          · exact Or.inr ⟨q, List.mem_cons_of_mem _ hq, m2, h2, h3⟩
      · obtain ⟨lo, c1, b1, b2, b3, b4, b5, b6⟩ := gLow_ok D K n m c hC (by omega) hmN hK
        rw [b1]
        simp only
        obtain ⟨r, c', a1, a2, a3, a4, a5, a6, a7, a8⟩ := gEnt_ok D K n hK l (min least lo) c1 b4 (by rw [b2]; exact hnum) hl'
        rw [b3] at a7 a8
        refine ⟨r, c', a1, a2.trans b2, a3.trans b3, a4, fun q hq => (a5 q hq).trans (b5 q hq), by omega, fun q hq m2 h2 => ?_, ?_⟩
        · rcases List.mem_cons.1 hq with e | e
          · rw [e] at h2
            rw [huniq m2 h2]
            exact ⟨fun h => by omega, fun _ y e2 hy hny he => by have := b6.1 y e2 hy hny he; omega⟩
          · exact a7 q e m2 h2
        · rcases a8 with e | ⟨q, hq, m2, h2, h3⟩
          · by_cases h : least ≤ lo
            · exact Or.inl (by omega)
            · obtain ⟨y, f1, f2, f3⟩ := b6.2
              exact Or.inr ⟨p, List.mem_cons_self .., m, hm, Or.inr ⟨by omega, y, f1, f2, by rw [e, Nat.min_eq_right (by omega)]; exact f3⟩⟩
          · exact Or.inr ⟨q, List.mem_cons_of_mem _ hq, m2, h2, h3⟩
    · have e1 : c.num[p]? = some none := by rw [hnum]; exact gPlaces_not D.nd D.lt hp hpn
      rw [e1]
      simp only
      obtain ⟨r, c', a1, a2, a3, a4, a5, a6, a7, a8⟩ := gEnt_ok D K n hK l least c hC hnum hl'
      refine ⟨r, c', a1, a2, a3, a4, a5, a6, fun q hq m2 h2 => ?_, ?_⟩
      · rcases List.mem_cons.1 hq with e | e
        · rw [e] at h2; exact absurd (List.mem_of_getElem? h2) hp
        · exact a7 q e m2 h2
      · rcases a8 with e | ⟨q, hq, m2, h2, h3⟩
        · exact Or.inl e
        · exact Or.inr ⟨q, List.mem_cons_of_mem _ hq, m2, h2, h3⟩

/-- An entry is made of those of greater numbers. -/
def EntOK (M : List Nat) (wb : List (Option Nat)) (ps : List (List Nat)) (ent : List Nat) (j : Nat) : Prop := ∃ e x l, ent[j]? = some e ∧ M[j]? = some x ∧ ps[x]? = some l ∧ e ≤ j ∧ (∀ p ∈ l, ∀ m : Nat, M[m]? = some p → LowB M wb ent j m e) ∧ (e = j ∨ ∃ p ∈ l, ∃ m : Nat, M[m]? = some p ∧ LowE M wb ent j m e)
theorem EntOK.set {ps : List (List Nat)} {ent : List Nat} {j n v : Nat} (h : EntOK M wb ps ent j) (hn : n < j) : EntOK M wb ps (ent.set n v) j := by
  obtain ⟨e, x, l, h1, h2, h3, h4, h5, h6⟩ := h
  have hs : ∀ y : Nat, j ≤ y → (ent.set n v)[y]? = ent[y]? := fun y hy => by rw [List.getElem?_set, if_neg (by omega)]
  refine ⟨e, x, l, by rw [hs j (Nat.le_refl _)]; exact h1, h2, h3, h4, fun p hp m hm => ?_, ?_⟩
  · have := h5 p hp m hm
    exact ⟨this.1, fun a y e2 b c d => this.2 a y e2 b c (by rw [hs y (by omega)] at d; exact d)⟩
  · rcases h6 with e1 | ⟨p, hp, m, hm, e1⟩
    · exact Or.inl e1
    · refine Or.inr ⟨p, hp, m, hm, ?_⟩
      rcases e1 with e1 | ⟨e1, y, f1, f2, f3⟩
      · exact Or.inl e1
      · exact Or.inr ⟨e1, y, f1, f2, by rw [hs y (by omega)]; exact f3⟩
theorem gCls_ok (D : DfsF g M wb) (K : Nat) (hK : M.length ≤ K) (ps : List (List Nat)) (hps : ps.length = g.length) (hpp : ∀ l ∈ ps, ∀ p ∈ l, p < g.length) : ∀ (n : Nat) (c : GC), n < M.length → ClI M wb n c.up c.low c.ent → c.num = gPlaces g.length M → (∀ j : Nat, n < j → j < M.length → EntOK M wb ps c.ent j) →
    ∃ c', gCls K M wb ps n c = some c' ∧ c'.ent.length = M.length ∧ c'.num = c.num ∧ ∀ j : Nat, 0 < j → j < M.length → EntOK M wb ps c'.ent j
  | 0, c, _, hC, _, hE => ⟨c, rfl, hC.le, rfl, fun j h1 h2 => hE j h1 h2⟩
  | n + 1, c, hn, hC, hnum, hE => by
    obtain ⟨p, hp⟩ : ∃ p, M[n + 1]? = some p := ⟨_, List.getElem?_eq_getElem hn⟩
    obtain ⟨b, u, w1, w2, w3, w4, w5, w6⟩ := D.up hp (by omega)
    have hpg := D.lt p (List.mem_of_getElem? hp)
    obtain ⟨l, hl⟩ : ∃ l, ps[p]? = some l := ⟨_, List.getElem?_eq_getElem (by rw [hps]; exact hpg)⟩
    have hnb : c.num[b]? = some (some u) := by rw [hnum]; exact gPlaces_at D.nd D.lt w2
    rw [gCls, hp]
    simp only [w1, hl, hnb]
    have hC1 : ClI M wb (n + 1) (c.up.set (n + 1) u) c.low c.ent := ⟨by simp [hC.lu], hC.ll, hC.le, fun x hx hxN => by
      rw [List.getElem?_set, if_neg (by omega)]
      exact hC.ok x hx hxN⟩
    obtain ⟨r, c', a1, a2, a3, a4, a5, a6, a7, a8⟩ := gEnt_ok D K (n + 1) hK l (n + 1) ⟨c.num, c.up.set (n + 1) u, c.low, c.ent, c.way⟩ hC1 hnum (hpp l (List.mem_of_getElem? hl))
    rw [a1]
    simp only at a2 a3 a5 a7 a8 ⊢
    have hs : ∀ y : Nat, n + 1 < y → (c'.ent.set (n + 1) r)[y]? = c'.ent[y]? := fun y hy => by rw [List.getElem?_set, if_neg (by omega)]
    have hself : (c'.ent.set (n + 1) r)[n + 1]? = some r := by rw [List.getElem?_set_self (by rw [a4.le]; exact hn)]
    have hupn : c'.up[n + 1]? = some u := by rw [a5 (n + 1) (Nat.le_refl _), List.getElem?_set_self (by rw [hC.lu]; exact hn)]
    refine gCls_ok D K hK ps hps hpp n ⟨c'.num, c'.up, c'.low.set (n + 1) r, c'.ent.set (n + 1) r, c'.way⟩ (by omega) ⟨a4.lu, by simp [a4.ll], by simp [a4.le], fun x hx hxN => ?_⟩ (a2.trans hnum) (fun j hj hjN => ?_) |>.imp (fun c2 h => ⟨h.1, h.2.1, h.2.2.1.trans a2, h.2.2.2⟩)
    · by_cases e : x = n + 1
      · subst e
        have hr : ∀ y, UpN M wb y (n + 1) → u < y → y = n + 1 := fun y hy hu => by
          rcases w6 y hy with e | e
          · exact e
          · have := e.le D; omega
        refine ⟨u, r, hupn, by simp only; rw [List.getElem?_set_self (by rw [a4.ll]; exact hn)], w3, w5, fun y hy hu => by rw [hr y hy hu]; omega, fun y e hy hu he => ?_, n + 1, UpN.refl hn, w3, hself⟩
        rw [hr y hy hu, hself] at he
        injection he with he
        omega
      · obtain ⟨u2, lo, t1, t2, t3, t4, t5, t6⟩ := a4.ok x (by omega) hxN
        refine ⟨u2, lo, t1, by simp only; rw [List.getElem?_set, if_neg (by omega)]; exact t2, t3, t4, fun y hy hu => by have := t5 y hy hu; omega, fun y e hy hu he => t6.1 y e hy hu (by rw [hs y (t5 y hy hu)] at he; exact he), ?_⟩
        obtain ⟨y, f1, f2, f3⟩ := t6.2
        exact ⟨y, f1, f2, by rw [hs y (t5 y f1 f2)]; exact f3⟩
    · by_cases e : j = n + 1
      · subst e
        rw [← a3] at a7 a8
        refine ⟨r, p, l, hself, hp, hl, a6, fun q hq m hm => ?_, ?_⟩
        · have := a7 q hq m hm
          exact ⟨this.1, fun a y e2 b c d => this.2 a y e2 b c (by rw [hs y c] at d; exact d)⟩
        · rcases a8 with e1 | ⟨q, hq, m, hm, e1⟩
          · exact Or.inl e1
          · refine Or.inr ⟨q, hq, m, hm, ?_⟩
            rcases e1 with e1 | ⟨e1, y, f1, f2, f3⟩
            · exact Or.inl e1
            · exact Or.inr ⟨e1, y, f1, f2, by rw [hs y f2]; exact f3⟩
      · refine EntOK.set ?_ (by omega)
        rw [a3]
        exact hE j (by omega) hjN
theorem gClimb_ok (D : DfsF g M wb) (K : Nat) (hK : M.length ≤ K) (ps : List (List Nat)) (hps : ps.length = g.length) (hpp : ∀ l ∈ ps, ∀ p ∈ l, p < g.length) : ∃ c, gClimb K g.length M wb ps = some c ∧ c.ent.length = M.length ∧ c.num = gPlaces g.length M ∧ ∀ j : Nat, 0 < j → j < M.length → EntOK M wb ps c.ent j := by
  have h0 := (List.getElem?_eq_some_iff.1 D.zero).1
  unfold gClimb
  obtain ⟨c, h1, h2, h3, h4⟩ := gCls_ok D K hK ps hps hpp (M.length - 1) ⟨gPlaces g.length M, List.replicate M.length 0, List.replicate M.length 0, List.replicate M.length 0, []⟩ (by omega) ⟨by simp, by simp, by simp, fun x h1 h2 => by omega⟩ rfl (fun j h1 h2 => by omega)
  exact ⟨c, h1, h2, h3, h4⟩
end
end Go.Proofs.Ytpfjafjpijmckaa

/- Plain: entries by ways; immediate dominators. -/
set_option linter.unusedSimpArgs false
set_option linter.unusedVariables false
namespace Go.Proofs.Ytpfjafjpijmckaa
open Go.RowKit

theorem edg_norm (g : List (List Int)) (a b : Nat) : EdgG g a b ↔ ∃ l, (gNorm g)[a]? = some l ∧ b ∈ l := by
  constructor
  · rintro ⟨L, x, hL, hx, hp, rfl⟩
    have hx0 : ((x.toNat : Nat) : Int) = x := by unfold gPt at hp; simp at hp; omega
    exact ⟨_, gNorm_get g a L hL, (gNormL_mem _ _ _ _).2 (Or.inr ⟨by rw [hx0]; exact hx, by rw [hx0]; exact hp⟩)⟩
  · rintro ⟨l, hl, hb⟩
    obtain ⟨L, hL, rfl⟩ := gNorm_get' g a l hl
    rcases (gNormL_mem _ _ _ _).1 hb with e | ⟨e1, e2⟩
    · cases e
    · exact ⟨L, (b : Int), hL, e1, e2, by simp⟩
theorem rPredL_mem (p n : Nat) : ∀ (l : List Nat) (ps : List (List Nat)) (q y : Nat), ps.length = n → (∀ x ∈ l, x < n) → (y ∈ (rPredL p l ps).getD q [] ↔ y ∈ ps.getD q [] ∨ (y = p ∧ q ∈ l))
  | [], ps, q, y, _, _ => by simp [rPredL]
  | x :: r, ps, q, y, hl, hx => by
    rw [rPredL, rPredL_mem p n r _ q y (by simp [hl]) (fun z hz => hx z (List.mem_cons_of_mem _ hz)), getD_set _ _ _ _ (by rw [hl]; exact hx x (List.mem_cons_self ..))]
    by_cases e : x = q
    · subst e
      rw [if_pos rfl]
      simp only [List.mem_append, List.mem_cons, List.not_mem_nil, or_false, true_or, and_true]
      constructor
      · rintro ((h | h) | h)
        · exact Or.inl h
        · exact Or.inr h
        · exact Or.inr h.1
      · rintro (h | h)
        · exact Or.inl (Or.inl h)
        · exact Or.inl (Or.inr h)
    · rw [if_neg e]
      simp only [List.mem_cons]
      constructor
      · rintro (h | h)
        · exact Or.inl h
        · exact Or.inr ⟨h.1, Or.inr h.2⟩
      · rintro (h | ⟨h, h2 | h2⟩)
        · exact Or.inl h
        · exact absurd h2.symm e
        · exact Or.inr ⟨h, h2⟩
theorem rPredF_mem (n : Nat) : ∀ (ls : List (List Nat)) (p : Nat) (ps : List (List Nat)) (q y : Nat), ps.length = n → (∀ l ∈ ls, ∀ x ∈ l, x < n) → (y ∈ (rPredF ls p ps).getD q [] ↔ y ∈ ps.getD q [] ∨ ∃ i l, ls[i]? = some l ∧ y = p + i ∧ q ∈ l)
  | [], p, ps, q, y, _, _ => by simp [rPredF]
  | l :: r, p, ps, q, y, hl, hx => by
    have hl1 : (rPredL p l ps).length = n := by
      have : ∀ (l : List Nat) (ps : List (List Nat)), (rPredL p l ps).length = ps.length := by
        intro l
        induction l with
        | nil => intro ps; rfl
        | cons z r ih => intro ps; rw [rPredL, ih]; simp
      rw [this, hl]
    rw [rPredF, rPredF_mem n r (p + 1) _ q y hl1 (fun l2 h2 => hx l2 (List.mem_cons_of_mem _ h2)), rPredL_mem p n l ps q y hl (hx l (List.mem_cons_self ..))]
    constructor
    · rintro ((h | ⟨h, h2⟩) | ⟨i, l2, h1, h2, h3⟩)
      · exact Or.inl h
      · exact Or.inr ⟨0, l, rfl, by omega, h2⟩
      · exact Or.inr ⟨i + 1, l2, by simpa using h1, by omega, h3⟩
    · rintro (h | ⟨i, l2, h1, h2, h3⟩)
      · exact Or.inl (Or.inl h)
      · cases i with
        | zero =>
          simp at h1
          subst h1
          exact Or.inl (Or.inr ⟨by omega, h3⟩)
        | succ i => exact Or.inr ⟨i, l2, by simpa using h1, by omega, h3⟩
/-- What leads to a point. -/
theorem gPreds_mem (g : List (List Int)) (x p : Nat) (l : List Nat) (h : (gPreds g)[x]? = some l) : p ∈ l ↔ EdgG g p x := by
  rw [edg_norm]
  have hp := gNorm_pts g
  have hn := gNorm_len g
  have e : l = (gPreds g).getD x [] := by rw [List.getD_eq_getElem?_getD, h]; rfl
  rw [e, gPreds_r, rPreds, rPredF_mem (gNorm g).length (gNorm g) 0 _ x p (by simp) hp]
  constructor
  · rintro (h | ⟨i, l2, h1, h2, h3⟩)
    · rw [List.getD_eq_getElem?_getD, List.getElem?_replicate] at h
      split at h <;> cases h
    · exact ⟨l2, by rw [show p = i by omega]; exact h1, h3⟩
  · rintro ⟨l2, h1, h2⟩
    exact Or.inr ⟨p, l2, h1, by omega, h2⟩
theorem gPreds_lt (g : List (List Int)) : ∀ l ∈ gPreds g, ∀ p ∈ l, p < g.length := by
  intro l hl p hp
  obtain ⟨x, hx⟩ := List.getElem?_of_mem hl
  obtain ⟨L, _, hL, _⟩ := (gPreds_mem g x p l hx).1 hp
  exact (List.getElem?_eq_some_iff.1 hL).1

/-- A way of one edge or more, with such points between. -/
inductive Via (E : Nat → Nat → Prop) (Q : Nat → Prop) (a : Nat) : Nat → Prop
  | one {b : Nat} : E a b → Via E Q a b
  | snoc {x b : Nat} : Via E Q a x → Q x → E x b → Via E Q a b
theorem Via.mono {E : Nat → Nat → Prop} {Q Q' : Nat → Prop} (hq : ∀ x, Q x → Q' x) {a b : Nat} (h : Via E Q a b) : Via E Q' a b := by
  induction h with
  | one e => exact .one e
  | snoc _ q e ih => exact .snoc ih (hq _ q) e
/-- A number greater than another one. -/
def Gt (M : List Nat) (n z : Nat) : Prop := ∃ i : Nat, M[i]? = some z ∧ n < i

section
variable {g : List (List Int)} {M : List Nat} {wb : List (Option Nat)} {ent : List Nat}
/-- Entries, by edges. -/
structure EntF (g : List (List Int)) (M : List Nat) (wb : List (Option Nat)) (ent : List Nat) : Prop where
  le : ∀ (j e : Nat), 0 < j → j < M.length → ent[j]? = some e → e < j
  at' : ∀ j : Nat, 0 < j → j < M.length → ∃ e, ent[j]? = some e
  bd : ∀ (j x e m p : Nat), 0 < j → M[j]? = some x → ent[j]? = some e → M[m]? = some p → EdgG g p x → LowB M wb ent j m e
  ex : ∀ (j x e : Nat), 0 < j → M[j]? = some x → ent[j]? = some e → ∃ m p, M[m]? = some p ∧ EdgG g p x ∧ LowE M wb ent j m e
theorem entF_of (D : DfsF g M wb) (h : ∀ j : Nat, 0 < j → j < M.length → EntOK M wb (gPreds g) ent j) : EntF g M wb ent := by
  have bd : ∀ (j x e m p : Nat), 0 < j → M[j]? = some x → ent[j]? = some e → M[m]? = some p → EdgG g p x → LowB M wb ent j m e := by
    intro j x e m p h0 hx he hm hE
    obtain ⟨e2, x2, l, f1, f2, f3, f4, f5, f6⟩ := h j h0 (List.getElem?_eq_some_iff.1 hx).1
    rw [hx] at f2
    injection f2 with f2
    subst f2
    rw [he] at f1
    injection f1 with f1
    subst f1
    exact f5 p ((gPreds_mem g x p l f3).2 hE) m hm
  have le : ∀ (j e : Nat), 0 < j → j < M.length → ent[j]? = some e → e < j := by
    intro j e h0 hj he
    obtain ⟨y, u, w1, w2, w3, w4, _⟩ := D.up (List.getElem?_eq_getElem hj) h0
    have := (bd j _ e u y h0 (List.getElem?_eq_getElem hj) he w2 w4).1 (by omega)
    omega
  refine ⟨le, fun j h0 hj => ?_, bd, fun j x e h0 hx he => ?_⟩
  · obtain ⟨e, _, _, f1, _⟩ := h j h0 hj
    exact ⟨e, f1⟩
  · obtain ⟨e2, x2, l, f1, f2, f3, f4, f5, f6⟩ := h j h0 (List.getElem?_eq_some_iff.1 hx).1
    rw [hx] at f2
    injection f2 with f2
    subst f2
    rw [he] at f1
    injection f1 with f1
    subst f1
    rcases f6 with e1 | ⟨p, hp, m, hm, e1⟩
    · have := le j e h0 (List.getElem?_eq_some_iff.1 hx).1 he; omega
    · exact ⟨m, p, hm, (gPreds_mem g x p l f3).1 hp, e1⟩
/-- Down the tree. -/
theorem Via.down (D : DfsF g M wb) {Q : Nat → Prop} {v a b : Nat} {i : Nat} (h : Via (EdgG g) Q v a) (hu : Up wb a b) (hi : M[i]? = some a) (hb : b ∈ M) (hQ : ∀ (k z : Nat), M[k]? = some z → i ≤ k → Q z) : Via (EdgG g) Q v b := by
  induction hu with
  | refl => exact h
  | @step x y k e ih =>
    obtain ⟨j, hj⟩ := List.getElem?_of_mem hb
    rcases D.par j x hj with f | ⟨y2, j2, f1, f2, f3, f4⟩
    · subst f
      rw [D.zero] at hj
      injection hj with hj
      subst hj
      rw [D.root] at e
      cases e
    · rw [e] at f1
      injection f1 with f1
      injection f1 with f1
      subst f1
      exact .snoc (ih (List.mem_of_getElem? f3)) (hQ j2 y f3 (D.le k hi f3)) f4
/-- An entry leads to its point over greater numbers. -/
theorem EntF.way (D : DfsF g M wb) (F : EntF g M wb ent) : ∀ (c j x e : Nat), M.length - j ≤ c → 0 < j → M[j]? = some x → ent[j]? = some e → ∃ v, M[e]? = some v ∧ Via (EdgG g) (Gt M j) v x
  | 0, j, x, e, hc, h0, hx, he => by have := (List.getElem?_eq_some_iff.1 hx).1; omega
  | c + 1, j, x, e, hc, h0, hx, he => by
    have hjN := (List.getElem?_eq_some_iff.1 hx).1
    obtain ⟨m, p, hm, hE, h⟩ := F.ex j x e h0 hx he
    rcases h with ⟨h1, h2⟩ | ⟨h1, y, f1, f2, f3⟩
    · subst h2
      exact ⟨p, hm, .one hE⟩
    · obtain ⟨a, b, g1, g2, g3⟩ := f1
      rw [hm] at g2
      injection g2 with g2
      subst g2
      obtain ⟨v, hv, hV⟩ := EntF.way D F c y a e (by omega) (by omega) g1 f3
      have hV2 : Via (EdgG g) (Gt M j) v a := hV.mono (fun z ⟨k, k1, k2⟩ => ⟨k, k1, by omega⟩)
      exact ⟨v, hv, .snoc (hV2.down D g3 g1 (List.mem_of_getElem? hm) (fun k z hk hyk => ⟨k, hk, by omega⟩)) ⟨m, hm, h1⟩ hE⟩
/-- An edge bounds the entry. -/
theorem EntF.edge (F : EntF g M wb ent) {j x e m p : Nat} (h0 : 0 < j) (hx : M[j]? = some x) (he : ent[j]? = some e) (hm : M[m]? = some p) (hE : EdgG g p x) : e ≤ m := by
  have hB := F.bd j x e m p h0 hx he hm hE
  have hjN := (List.getElem?_eq_some_iff.1 hx).1
  have hmN := (List.getElem?_eq_some_iff.1 hm).1
  by_cases h : m ≤ j
  · exact hB.1 h
  · obtain ⟨e2, he2⟩ := F.at' m (by omega) hmN
    have h1 := hB.2 (by omega) m e2 (UpN.refl hmN) (by omega) he2
    have h2 := F.le m e2 (by omega) hmN he2
    omega
/-- From z to x, z's number greater: what stands on the way up from z counts. -/
theorem EntF.over (F : EntF g M wb ent) {j x e m p y f : Nat} (h0 : 0 < j) (hx : M[j]? = some x) (he : ent[j]? = some e) (hm : M[m]? = some p) (hE : EdgG g p x) (hjm : j < m) (hy : UpN M wb y m) (hjy : j < y) (hf : ent[y]? = some f) : e ≤ f :=
  (F.bd j x e m p h0 hx he hm hE).2 hjm y f hy hjy hf

/-- A way from the first point that keeps off x. -/
inductive Av (g : List (List Int)) (x : Nat) : Nat → Prop
  | zero : 0 ≠ x → Av g x 0
  | step {a b : Nat} : Av g x a → EdgG g a b → b ≠ x → Av g x b
theorem Av.mem (D : DfsF g M wb) {x z : Nat} (h : Av g x z) : z ∈ M := by
  induction h with
  | zero => exact List.mem_of_getElem? D.zero
  | step _ e _ ih =>
    obtain ⟨i, hi⟩ := List.getElem?_of_mem ih
    obtain ⟨j, hj, _⟩ := D.ed i _ _ hi e
    exact List.mem_of_getElem? hj
theorem Av.ne {x z : Nat} (h : Av g x z) : z ≠ x := by
  cases h with
  | zero h => exact h
  | step _ _ h => exact h
/-- What is come to round x has on its way up a point whose entry is below x. -/
theorem Av.low (D : DfsF g M wb) (F : EntF g M wb ent) {x nx : Nat} (hx : M[nx]? = some x) {z : Nat} (h : Av g x z) : ∀ k : Nat, M[k]? = some z → nx < k → ∃ y f, UpN M wb y k ∧ nx < y ∧ ent[y]? = some f ∧ f < nx := by
  induction h with
  | zero h0 =>
    intro k hk hlt
    have := nd_inj D.nd hk D.zero
    omega
  | @step a b ha hE hne ih =>
    intro k hk hlt
    obtain ⟨m, hm⟩ := List.getElem?_of_mem (Av.mem D ha)
    have hmx : m ≠ nx := fun e => by
      subst e
      rw [hx] at hm
      injection hm with hm
      exact ha.ne hm.symm
    have hkN := (List.getElem?_eq_some_iff.1 hk).1
    obtain ⟨e, he⟩ := F.at' k (by omega) hkN
    by_cases h1 : m < nx
    · have := F.edge (by omega) hk he hm hE
      exact ⟨k, e, UpN.refl hkN, hlt, he, by omega⟩
    · obtain ⟨y, f, y1, y2, y3, y4⟩ := ih m hm (by omega)
      by_cases h2 : m < k
      · obtain ⟨j, hj, hu⟩ := D.ed m a b hm hE
        obtain rfl := nd_inj D.nd hj hk
        exact ⟨y, f, y1.trans ⟨a, b, hm, hk, hu h2⟩, y2, y3, y4⟩
      · by_cases h3 : m = k
        · subst h3; exact ⟨y, f, y1, y2, y3, y4⟩
        · by_cases h4 : k < y
          · have := F.over (by omega) hk he hm hE (by omega) y1 h4 y3
            exact ⟨k, e, UpN.refl hkN, hlt, he, by omega⟩
          · exact ⟨y, f, y1.mid D (by omega) (by omega), y2, y3, y4⟩
/-- The tree leads to a point over no greater numbers. -/
theorem Av.tree (D : DfsF g M wb) (x nx : Nat) (hx : M[nx]? = some x) : ∀ (k z : Nat), M[k]? = some z → (∀ i, UpN M wb i k → i ≠ nx) → Av g x z := by
  intro k
  induction k using Nat.strongRecOn with
  | _ k ih =>
    intro z hz hn
    have hkN := (List.getElem?_eq_some_iff.1 hz).1
    by_cases h0 : k = 0
    · subst h0
      have hz0 := hz
      rw [D.zero] at hz0
      injection hz0 with hz0
      subst hz0
      refine .zero (fun e => ?_)
      subst e
      exact hn 0 (UpN.refl hkN) (nd_inj D.nd D.zero hx)
    · obtain ⟨y, u, w1, w2, w3, w4, w5, w6⟩ := D.up hz (by omega)
      refine .step (ih u w3 y w2 (fun i hi => hn i (hi.trans w5))) w4 (fun e => ?_)
      subst e
      exact hn k (UpN.refl hkN) (nd_inj D.nd hz hx)
theorem Av.via (D : DfsF g M wb) {x : Nat} {v z : Nat} (h : Via (EdgG g) (fun t => t ≠ x) v z) (hv : Av g x v) (hz : z ≠ x) : Av g x z := by
  induction h with
  | one e => exact .step hv e hz
  | snoc _ q e ih => exact .step (ih q) e hz
/-- x dominates z. -/
def Dom (g : List (List Int)) (x z : Nat) : Prop := ¬ Av g x z
theorem Dom.up (D : DfsF g M wb) {x z nx k : Nat} (hx : M[nx]? = some x) (hz : M[k]? = some z) (h : Dom g x z) : UpN M wb nx k := by
  refine Classical.byContradiction fun hc => h (Av.tree D x nx hx k z hz (fun i hi e => ?_))
  subst e
  exact hc hi
/-- Strict dominators of a point: those of its parent that are not above its entry. -/
theorem dom_iff (D : DfsF g M wb) (F : EntF g M wb ent) {x nx w k p np e : Nat} (hx : M[nx]? = some x) (hw : M[k]? = some w) (h0 : 0 < k) (he : ent[k]? = some e) (hp : M[np]? = some p) (hpw : wb[w]? = some (some p)) : (Dom g x w ∧ x ≠ w) ↔ (Dom g x p ∧ nx ≤ e) := by
  have hkN := (List.getElem?_eq_some_iff.1 hw).1
  have hek := F.le k e h0 hkN he
  obtain ⟨y, u, w1, w2, w3, w4, w5, w6⟩ := D.up hw h0
  rw [hpw] at w1
  injection w1 with w1
  injection w1 with w1
  subst w1
  obtain rfl := nd_inj D.nd w2 hp
  constructor
  · rintro ⟨h1, h2⟩
    refine ⟨fun ha => h1 (.step ha w4 (Ne.symm h2)), ?_⟩
    refine Classical.byContradiction fun hc => h1 ?_
    have hnk := (h1.up D hx hw).le D
    have hnk2 : nx ≠ k := fun e2 => by
      subst e2
      rw [hx] at hw
      injection hw with hw
      exact h2 hw
    obtain ⟨v, hv, hV⟩ := F.way D _ k w e (Nat.le_refl _) h0 hw he
    exact Av.via D (hV.mono (by
      rintro z ⟨i, i1, i2⟩ e2
      subst e2
      have := nd_inj D.nd i1 hx
      omega)) (Av.tree D x nx hx e v hv (by
      intro i hi e2
      have := hi.le D
      omega)) (Ne.symm h2)
  · rintro ⟨h1, h2⟩
    have hne : x ≠ w := fun e2 => by
      subst e2
      have := nd_inj D.nd hx hw
      omega
    refine ⟨fun ha => ?_, hne⟩
    obtain ⟨y, f, y1, y2, y3, y4⟩ := ha.low D F hx k hw (by omega)
    rcases w6 y y1 with e2 | e2
    · subst e2
      rw [he] at y3
      injection y3 with y3
      omega
    · refine h1 ?_
      obtain ⟨a, b, a1, a2, a3⟩ := e2
      rw [hp] at a2
      injection a2 with a2
      subst a2
      obtain ⟨v, hv, hV⟩ := F.way D _ y a f (Nat.le_refl _) (by omega) a1 y3
      have hgt : ∀ (i z : Nat), M[i]? = some z → nx < i → z ≠ x := fun i z hi hlt e2 => by
        subst e2
        have := nd_inj D.nd hi hx
        omega
      have hV2 : Via (EdgG g) (fun t => t ≠ x) v a := hV.mono (fun z ⟨i, i1, i2⟩ => hgt i z i1 (by omega))
      have hV3 := hV2.down D a3 a1 (List.mem_of_getElem? hp) (fun i z hi hyi => hgt i z hi (by omega))
      refine Av.via D hV3 (Av.tree D x nx hx f v hv (fun i hi e2 => ?_)) (hgt u p hp ?_)
      · have := hi.le D
        omega
      · have := D.le a3 a1 hp
        omega
end
end Go.Proofs.Ytpfjafjpijmckaa

/- Plain: Doms tells immediate dominators. -/
set_option linter.unusedSimpArgs false
set_option linter.unusedVariables false
namespace Go.Proofs.Ytpfjafjpijmckaa
open Go.RowKit

theorem nodup_len : ∀ (n : Nat) (l : List Nat), l.Nodup → (∀ x ∈ l, x < n) → l.length ≤ n
  | 0, l, _, h => by
    cases l with
    | nil => simp
    | cons a r => exact absurd (h a (List.mem_cons_self ..)) (by omega)
  | n + 1, l, hn, h => by
    by_cases hm : n ∈ l
    · have h1 := nodup_len n (l.erase n) (hn.erase n) (fun x hx => by
        rw [hn.mem_erase_iff] at hx
        have := h x hx.2
        omega)
      rw [List.length_erase_of_mem hm] at h1
      omega
    · have h1 := nodup_len n l hn (fun x hx => by
        have := h x hx
        have : x ≠ n := fun e => hm (by rw [← e]; exact hx)
        omega)
      omega

section
variable {g : List (List Int)} {M : List Nat} {wb : List (Option Nat)} {ent : List Nat}
theorem Dom.refl (x : Nat) : Dom g x x := fun h => h.ne rfl
theorem Av.or {a b z : Nat} (h : Av g a z) : Av g b z ∨ Av g a b := by
  induction h with
  | zero h0 =>
    by_cases e : 0 = b
    · subst e; exact Or.inr (.zero h0)
    · exact Or.inl (.zero e)
  | @step y z hy hE hne ih =>
    rcases ih with e | e
    · by_cases e2 : z = b
      · subst e2; exact Or.inr (.step hy hE hne)
      · exact Or.inl (.step e hE e2)
    · exact Or.inr e
theorem Dom.trans {a b c : Nat} (h : Dom g a b) (k : Dom g b c) : Dom g a c := fun ha => (ha.or (b := b)).elim k h

/-- What is known of the dominators of the first numbers. -/
structure DmI (g : List (List Int)) (M : List Nat) (i : Nat) (d : List (Option Nat)) : Prop where
  len : d.length = g.length
  ok : ∀ (j w : Nat), 0 < j → j < i → M[j]? = some w → ∃ q nq : Nat, d[w]? = some (some q) ∧ M[nq]? = some q ∧ nq < j ∧ Dom g q w ∧ ∀ (x nx : Nat), M[nx]? = some x → Dom g x w → x ≠ w → Dom g x q
  no : ∀ x : Nat, x < g.length → (∀ j : Nat, 0 < j → j < i → M[j]? ≠ some x) → d[x]? = some none
theorem gDomUp_ok (D : DfsF g M wb) (d : List (Option Nat)) (i e : Nat) (hd : DmI g M i d) : ∀ (k np p : Nat), np < k → np < i → M[np]? = some p → ∃ q nq : Nat, gDomUp (gPlaces g.length M) d e k p = some q ∧ M[nq]? = some q ∧ nq ≤ e ∧ Dom g q p ∧ ∀ (x nx : Nat), M[nx]? = some x → nx ≤ e → Dom g x p → Dom g x q
  | 0, np, p, h, _, _ => by omega
  | k + 1, np, p, hk, hi, hp => by
    rw [gDomUp, gPlaces_at D.nd D.lt hp]
    simp only
    split
    · rename_i h
      simp only [oI] at h
      obtain ⟨q, nq, a1, a2, a3, a4, a5⟩ := hd.ok np p (by omega) hi hp
      rw [a1]
      simp only
      obtain ⟨q2, nq2, b1, b2, b3, b4, b5⟩ := gDomUp_ok D d i e hd k nq q (by omega) (by omega) a2
      refine ⟨q2, nq2, b1, b2, b3, b4.trans a4, fun x nx hx hle hdom => b5 x nx hx hle (a5 x nx hx hdom (fun e2 => ?_))⟩
      subst e2
      have := nd_inj D.nd hx hp
      omega
    · rename_i h
      simp only [oI] at h
      exact ⟨p, np, rfl, hp, by omega, Dom.refl p, fun x nx _ _ hdom => hdom⟩
theorem gDomL_ok (D : DfsF g M wb) (F : EntF g M wb ent) (hE : ent.length = M.length) (K : Nat) (hK : M.length ≤ K) : ∀ (c i : Nat) (d : List (Option Nat)), M.length - i ≤ c → 0 < i → DmI g M i d → ∃ d', gDomL K wb (gPlaces g.length M) (M.drop i) (ent.drop i) d = some d' ∧ DmI g M M.length d'
  | 0, i, d, hc, h0, hd => by
    rw [List.drop_of_length_le (by omega)]
    refine ⟨d, by rw [gDomL], hd.len, fun j w h1 h2 h3 => hd.ok j w h1 (by omega) h3, fun x hx h => hd.no x hx (fun j h1 h2 e => ?_)⟩
    exact h j h1 (List.getElem?_eq_some_iff.1 e).1 e
  | c + 1, i, d, hc, h0, hd => by
    by_cases hi : i < M.length
    · have hw : M[i]? = some M[i] := List.getElem?_eq_getElem hi
      have he : ent[i]? = some (ent[i]'(by omega)) := List.getElem?_eq_getElem _
      rw [List.drop_eq_getElem_cons hi, List.drop_eq_getElem_cons (by omega : i < ent.length)]
      generalize M[i] = w at hw
      generalize ent[i]'(by omega) = e at he
      obtain ⟨p, np, w1, w2, w3, w4, w5, w6⟩ := D.up hw h0
      obtain ⟨q, nq, b1, b2, b3, b4, b5⟩ := gDomUp_ok D d i e hd K np p (by omega) w3 w2
      rw [gDomL, w1]
      simp only [b1]
      have hwn := D.lt w (List.mem_of_getElem? hw)
      have hei := F.le i e h0 hi he
      refine gDomL_ok D F hE K hK c (i + 1) (d.set w (some q)) (by omega) (by omega) ⟨by simp [hd.len], fun j w2' h1 h2 h3 => ?_, fun x hx h => ?_⟩
      · by_cases ej : j = i
        · subst ej
          rw [hw] at h3
          injection h3 with h3
          subst h3
          have hq := (dom_iff D F b2 hw h0 he w2 w1).2 ⟨b4, b3⟩
          exact ⟨q, nq, by rw [List.getElem?_set_self (by rw [hd.len]; exact hwn)], b2, by omega, hq.1, fun x nx hx hdx hne => by
            have := (dom_iff D F hx hw h0 he w2 w1).1 ⟨hdx, hne⟩
            exact b5 x nx hx this.2 this.1⟩
        · obtain ⟨q2, nq2, c1, c2, c3, c4, c5⟩ := hd.ok j w2' h1 (by omega) h3
          refine ⟨q2, nq2, ?_, c2, c3, c4, c5⟩
          rw [List.getElem?_set, if_neg]
          · exact c1
          · rintro rfl
            have := nd_inj D.nd h3 hw
            omega
      · rw [List.getElem?_set, if_neg]
        · exact hd.no x hx (fun j h1 h2 => h j h1 (by omega))
        · rintro rfl
          exact h i h0 (by omega) hw
    · rw [List.drop_of_length_le (by omega)]
      refine ⟨d, by rw [gDomL], hd.len, fun j w h1 h2 h3 => hd.ok j w h1 (by omega) h3, fun x hx h => hd.no x hx (fun j h1 h2 e => ?_)⟩
      exact h j h1 (List.getElem?_eq_some_iff.1 e).1 e
end
/-- Doms. -/
theorem gDoms_ok (g : List (List Int)) (K : Nat) (F : GW) (hn : g.length ≠ 0) (h : gWalk g K = some F) (hK : g.length ≤ K) : ∃ d, gDoms g K = some d ∧ DmI g F.met F.met.length d := by
  obtain ⟨D, hs, hW⟩ := gWalk_dfs g K F hn h
  have hM := nodup_len g.length F.met D.nd D.lt
  obtain ⟨c, c1, c2, c3, c4⟩ := gClimb_ok D K (by omega) (gPreds g) (gPreds_len g) (gPreds_lt g)
  have E := entF_of D c4
  have h1 := (List.getElem?_eq_some_iff.1 D.zero).1
  obtain ⟨d, d1, d2⟩ := gDomL_ok D E c2 K (by omega) F.met.length 1 (List.replicate g.length none) (by omega) (by omega) ⟨by simp, fun j w h1 h2 => by omega, fun x hx _ => by rw [List.getElem?_replicate, if_pos hx]⟩
  refine ⟨d, ?_, d2⟩
  unfold gDoms
  rw [h]
  simp only [c1, c3]
  exact d1
theorem gDoms_nil (g : List (List Int)) (K : Nat) (hn : g.length = 0) : gDoms g K = some [] := by
  have hg : g = [] := List.length_eq_zero_iff.1 hn
  subst hg
  unfold gDoms gWalk
  simp [gNew, gClimb, gCls, gDomL]

/-- By the document's way. -/
theorem av_way (g : List (List Int)) (x z : Nat) : Av g x z ↔ (0 ≠ x ∧ Way (gNorm g) (x : Int) 0 z) := by
  constructor
  · intro h
    induction h with
    | zero h0 => exact ⟨h0, .nil⟩
    | step _ e hne ih =>
      obtain ⟨l, e1, e2⟩ := (edg_norm g _ _).1 e
      exact ⟨ih.1, .step ih.2 e1 e2 (by omega)⟩
  · rintro ⟨h0, h⟩
    induction h with
    | nil => exact .zero h0
    | step _ e1 e2 e3 ih => exact .step ih ((edg_norm g _ _).2 ⟨_, e1, e2⟩) (by omega)
end Go.Proofs.Ytpfjafjpijmckaa

/- Plain: the document's Over and Doms tell the same. -/
set_option linter.unusedSimpArgs false
set_option linter.unusedVariables false
namespace Go.Proofs.Ytpfjafjpijmckaa
open Go.RowKit

def oFn (o : List (List Bool)) (a b : Nat) : Bool := (o.getD a []).getD b false
def rOvE (inn wa : List Bool) (a b : Nat) : Bool := inn.getD a false && (inn.getD b false && ((a == b) || !wa.getD b false))
def rOvR (n : Nat) (inn wa : List Bool) (a : Nat) : List Bool := (List.range n).map (fun b => rOvE inn wa a b)
/-- Over: ws are the points that are come to without each. -/
def rOv (n : Nat) (inn : List Bool) (ws : List (List Bool)) : List (List Bool) := (List.range n).map (fun a => rOvR n inn (ws.getD a []) a)
theorem oFn_ov {n : Nat} {inn : List Bool} {ws : List (List Bool)} {a b : Nat} (ha : a < n) (hb : b < n) : oFn (rOv n inn ws) a b = rOvE inn (ws.getD a []) a b := by
  unfold oFn rOv rOvR
  simp [List.getD_eq_getElem?_getD, ha, hb]
/-- Is it the last dominator? -/
def rLst (n : Nat) (o : Nat → Nat → Bool) (b a : Nat) : Bool := (List.range n).all (fun c => !(c != b && (o c b && !o c a)))
def rDmC (n : Nat) (o : Nat → Nat → Bool) (b a : Nat) : Bool := a != b && (o a b && rLst n o b a)
def rDmS (n : Nat) (o : Nat → Nat → Bool) (b : Nat) : List Nat → Int → Int
  | [], r => r
  | a :: t, r => rDmS n o b t (if rDmC n o b a then (a : Int) else r)
theorem rDmS_no (n : Nat) (o : Nat → Nat → Bool) (b : Nat) : ∀ (l : List Nat) (r : Int), (∀ a ∈ l, rDmC n o b a = false) → rDmS n o b l r = r
  | [], r, _ => rfl
  | a :: t, r, h => by
    rw [rDmS, h a (List.mem_cons_self ..), rDmS_no n o b t _ (fun x hx => h x (List.mem_cons_of_mem _ hx))]
    rfl
theorem rDmS_one (n : Nat) (o : Nat → Nat → Bool) (b q : Nat) (hq : rDmC n o b q = true) : ∀ (l : List Nat) (r : Int), (∀ a ∈ l, rDmC n o b a = true → a = q) → (q ∈ l ∨ r = (q : Int)) → rDmS n o b l r = (q : Int)
  | [], r, _, h => by
    rcases h with h | h
    · cases h
    · rw [rDmS]; exact h
  | a :: t, r, hu, h => by
    rw [rDmS]
    have hu' : ∀ x ∈ t, rDmC n o b x = true → x = q := fun x hx => hu x (List.mem_cons_of_mem _ hx)
    cases hc : rDmC n o b a with
    | true =>
      have := hu a (List.mem_cons_self ..) hc
      subst this
      exact rDmS_one n o b a hq t _ hu' (Or.inr rfl)
    | false =>
      refine rDmS_one n o b q hq t _ hu' ?_
      rcases h with h | h
      · rcases List.mem_cons.1 h with e | e
        · rw [← e, hq] at hc; cases hc
        · exact Or.inl e
      · exact Or.inr h
theorem rDmC_iff (n : Nat) (o : Nat → Nat → Bool) (b a : Nat) : rDmC n o b a = true ↔ (a ≠ b ∧ o a b = true ∧ ∀ c, c < n → c ≠ b → o c b = true → o c a = true) := by
  unfold rDmC rLst
  simp only [Bool.and_eq_true, bne_iff_ne, ne_eq, List.all_eq_true, List.mem_range, Bool.not_eq_true', Bool.and_eq_false_imp]
  constructor
  · rintro ⟨h1, h2, h3⟩
    refine ⟨h1, h2, fun c hc hcb ho => ?_⟩
    have := h3 c hc (by simpa using hcb) ho
    simpa using this
  · rintro ⟨h1, h2, h3⟩
    refine ⟨h1, h2, fun c hc hcb ho => ?_⟩
    rw [h3 c hc (by simpa using hcb) ho]
    rfl

/-- What Over says. -/
def OvOk (g : List (List Int)) (M : List Nat) (o : Nat → Nat → Bool) : Prop := ∀ a b, a < g.length → b < g.length → (o a b = true ↔ (a ∈ M ∧ b ∈ M ∧ Dom g a b))
theorem ov_ok (g : List (List Int)) (M : List Nat) (inn : List Bool) (ws : List (List Bool)) (hi : ∀ q : Nat, inn[q]? = some true ↔ q ∈ M) (hw : ∀ a : Nat, a < g.length → ∃ K W, ws[a]? = some W ∧ rFrom (gNorm g) 0 (a : Int) K = some W) : OvOk g M (oFn (rOv g.length inn ws)) := by
  intro a b ha hb
  rw [oFn_ov ha hb]
  obtain ⟨K, W, h1, h2⟩ := hw a ha
  have hin : ∀ q : Nat, inn.getD q false = true ↔ q ∈ M := fun q => by
    rw [← hi q, List.getD_eq_getElem?_getD]
    cases inn[q]? with
    | none => simp
    | some v => cases v <;> simp
  have hon := rFrom_on (gNorm g) 0 (a : Int) K W h2 b
  rw [gNorm_len] at hon
  have hwb : (ws.getD a []).getD b false = true ↔ Av g a b := by
    rw [av_way, List.getD_eq_getElem?_getD (l := ws), h1, Option.getD_some, List.getD_eq_getElem?_getD]
    constructor
    · intro h
      have : W[b]? = some true := by
        cases hh : W[b]? with
        | none => rw [hh] at h; cases h
        | some v => rw [hh] at h; cases v <;> simp_all
      have := hon.1 this
      exact ⟨by omega, this.2.2.2⟩
    · rintro ⟨h0, h3⟩
      rw [hon.2 ⟨by omega, by omega, by omega, h3⟩]
      rfl
  unfold rOvE
  simp only [Bool.and_eq_true, Bool.or_eq_true, beq_iff_eq, Bool.not_eq_true', hin]
  constructor
  · rintro ⟨h3, h4, h5⟩
    refine ⟨h3, h4, ?_⟩
    rcases h5 with e | e
    · subst e; exact Dom.refl a
    · intro hav
      rw [hwb.2 hav] at e
      cases e
  · rintro ⟨h3, h4, h5⟩
    refine ⟨h3, h4, Or.inr ?_⟩
    cases hh : (ws.getD a []).getD b false with
    | false => rfl
    | true => exact absurd (hwb.1 hh) h5
theorem dom_eq {g : List (List Int)} {M : List Nat} {wb : List (Option Nat)} (D : DfsF g M wb) {a b : Nat} (ha : a ∈ M) (hb : b ∈ M) (h : Dom g a b) (k : Dom g b a) : a = b := by
  obtain ⟨i, hi⟩ := List.getElem?_of_mem ha
  obtain ⟨j, hj⟩ := List.getElem?_of_mem hb
  have h1 := (h.up D hi hj).le D
  have h2 := (k.up D hj hi).le D
  have : i = j := by omega
  subst this
  rw [hi] at hj
  exact Option.some.inj hj
/-- Doms is the document's. -/
theorem rDmS_ok {g : List (List Int)} {M : List Nat} {wb : List (Option Nat)} (D : DfsF g M wb) (o : Nat → Nat → Bool) (ho : OvOk g M o) (d : List (Option Nat)) (hd : DmI g M M.length d) (b : Nat) (hb : b < g.length) : rDmS g.length o b (List.range g.length) (-1) = oI (d.getD b none) := by
  by_cases hm : b ∈ M
  · obtain ⟨j, hj⟩ := List.getElem?_of_mem hm
    have hjN := (List.getElem?_eq_some_iff.1 hj).1
    by_cases h0 : j = 0
    · subst h0
      have hb0 := hj
      rw [D.zero] at hb0
      injection hb0 with hb0
      subst hb0
      rw [List.getD_eq_getElem?_getD, hd.no 0 hb (fun k h1 h2 e => by have := nd_inj D.nd e hj; omega)]
      refine rDmS_no _ _ _ _ _ (fun a ha => ?_)
      cases hc : rDmC g.length o 0 a with
      | false => rfl
      | true =>
        obtain ⟨h1, h2, _⟩ := (rDmC_iff _ _ _ _).1 hc
        have := (ho a 0 (List.mem_range.1 ha) hb).1 h2
        exact absurd (Av.zero (Ne.symm h1)) this.2.2
    · obtain ⟨q, nq, q1, q2, q3, q4, q5⟩ := hd.ok j b (by omega) hjN hj
      rw [List.getD_eq_getElem?_getD, q1]
      have hqM := List.mem_of_getElem? q2
      have hqn := D.lt q hqM
      have hqb : q ≠ b := fun e => by
        subst e
        have := nd_inj D.nd q2 hj
        omega
      have hCq : rDmC g.length o b q = true := (rDmC_iff _ _ _ _).2 ⟨hqb, (ho q b hqn hb).2 ⟨hqM, hm, q4⟩, fun c hc hcb hoc => by
        obtain ⟨c1, _, c3⟩ := (ho c b hc hb).1 hoc
        obtain ⟨nc, hnc⟩ := List.getElem?_of_mem c1
        exact (ho c q hc hqn).2 ⟨c1, hqM, q5 c nc hnc c3 hcb⟩⟩
      refine rDmS_one _ _ _ q hCq _ _ (fun a ha hCa => ?_) (Or.inl (List.mem_range.2 hqn))
      obtain ⟨h1, h2, h3⟩ := (rDmC_iff _ _ _ _).1 hCa
      have han := List.mem_range.1 ha
      obtain ⟨a1, _, a3⟩ := (ho a b han hb).1 h2
      obtain ⟨na, hna⟩ := List.getElem?_of_mem a1
      have h4 := h3 q hqn hqb ((ho q b hqn hb).2 ⟨hqM, hm, q4⟩)
      exact dom_eq D a1 hqM (q5 a na hna a3 h1) ((ho q a hqn han).1 h4).2.2
  · rw [List.getD_eq_getElem?_getD, hd.no b hb (fun k h1 h2 e => hm (List.mem_of_getElem? e))]
    refine rDmS_no _ _ _ _ _ (fun a ha => ?_)
    cases hc : rDmC g.length o b a with
    | false => rfl
    | true =>
      obtain ⟨h1, h2, _⟩ := (rDmC_iff _ _ _ _).1 hc
      exact absurd ((ho a b (List.mem_range.1 ha) hb).1 h2).2.1 hm

/-- Dominates by the way up. -/
theorem gDmU_ok {g : List (List Int)} {M : List Nat} {wb : List (Option Nat)} (D : DfsF g M wb) (d : List (Option Nat)) (hd : DmI g M M.length d) {x nx : Nat} (hx : M[nx]? = some x) : ∀ (k j y : Nat), j < k → M[j]? = some y → (gDmU (d.map oI) (x : Int) k (y : Int) = true ↔ Dom g x y)
  | 0, j, y, h, _ => by omega
  | k + 1, j, y, h, hy => by
    have hyn := D.lt y (List.mem_of_getElem? hy)
    have hjN := (List.getElem?_eq_some_iff.1 hy).1
    rw [gDmU, if_neg (by rw [List.length_map, hd.len]; omega)]
    by_cases e : x = y
    · subst e
      rw [if_pos rfl]
      exact ⟨fun _ => Dom.refl x, fun _ => rfl⟩
    · rw [if_neg (by omega)]
      by_cases h0 : j = 0
      · subst h0
        have hy0 := hy
        rw [D.zero] at hy0
        injection hy0 with hy0
        subst hy0
        have hnone := hd.no 0 hyn (fun k h1 h2 e => by have := nd_inj D.nd e hy; omega)
        have e1 : (d.map oI).getD (((0 : Nat) : Int).toNat) 0 = -1 := by
          rw [List.getD_eq_getElem?_getD, List.getElem?_map]
          simp [hnone, oI]
        rw [e1]
        constructor
        · intro hg
          cases k with
          | zero => cases hg
          | succ k => rw [gDmU, if_pos (Or.inl (by omega))] at hg; cases hg
        · intro hdom
          exact absurd (Av.zero (Ne.symm e)) hdom
      · obtain ⟨q, nq, q1, q2, q3, q4, q5⟩ := hd.ok j y (by omega) hjN hy
        have e1 : (d.map oI).getD ((y : Int).toNat) 0 = (q : Int) := by
          rw [List.getD_eq_getElem?_getD, List.getElem?_map]
          simp [q1, oI]
        rw [e1, gDmU_ok D d hd hx k nq q (by omega) q2]
        exact ⟨fun h => h.trans q4, fun h => q5 x nx hx h e⟩
end Go.Proofs.Ytpfjafjpijmckaa
