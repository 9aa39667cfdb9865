/- The maker: an expression. · The maker: code only grows; memory of its own beside the maker. · The maker: a while, a statement. · The code of a program, as plain functions. -/
import Derived.Test.YtlgdjeiendmniaaGreatDoorZg33
import Derived.Test.YtlgdjeiendmniaaGreatDoorZg32
import Derived.Test.YtlgdjeiendmniaaGreatDoorZg31
import Derived.Test.YtlgdjeiendmniaaGreatDoorZg7
set_option linter.unusedSimpArgs false
set_option linter.unusedVariables false
set_option maxRecDepth 10000

namespace Go.Proofs.YtlgdjeiendmniaaGreatDoor
open Go.RowKit

variable {g : Nat} {w w' w2 : World} {d : GM} {sv lp : Value}

set_option maxHeartbeats 4000000 in
theorem expr_int (x : PN) (m m' : GM) (hk : x.k = 15) (hG : gG (m.give (some x.n)) = some m') (hm : m.ok = true) {nb no : Nat} (hN : NdAt w g x nb no) (hM : MK g w m sv lp) :
    Calls Tryz.prog 57 #[.pointer (some ⟨g, 0, none⟩), .pointer (some ⟨nb, no, none⟩)] w (MAns g w m' sv lp) := by
  have HV := hide (valueOf_m hN hk)
  obtain ⟨o1, o2, o3, o4, o5⟩ := ok_parts hm
  obtain ⟨e1, e2⟩ := gG_some hG
  have hv : gcB (some x.n) = true := by
    have h5 := (ok_parts e2).2.2.2.2
    rw [← e1] at h5
    have : some x.n ∈ (m.give (some x.n)).cs := by
      unfold GM.give
      cases hq : gIx (some x.n) m.cs 0 with
      | none => simp [GM.lay]
      | some i =>
        have : ∀ (l : List (Option Int)) (j i : Nat), gIx (some x.n) l j = some i → some x.n ∈ l := by
          intro l
          induction l with
          | nil => intro j i h; rw [gIx] at h; cases h
          | cons y r ih =>
            intro j i h
            rw [gIx] at h
            split at h
            · rename_i e; rw [e]; simp
            · exact List.mem_cons_of_mem _ (ih _ _ h)
        simpa [GM.lay] using this m.cs 0 i hq
    exact List.all_eq_true.1 h5 _ this
  have HG := hide (fun (W : World) (hX : Ext w W) => give_m (some x.n) hv (hM.ext hX) (by omega) (by omega) o5)
  have hg := hM.lt
  subst e1
  obtain ⟨h1, a, cap, k0, k1, k2, k3, k4, hc, _⟩ := hN
  rw [hk] at k0
  clear hM hG hm hv e2 o1 o2 o3 o4 o5
  go_enter Tryz.func57, Tryz.ntmps57
  go_wp2_with (first
    | (go_at_call 86; refine Calls.mono (unhide HV) ?_; rintro e w1 ⟨rfl, hx⟩; have X1 := hide hx; clear hx)
    | (go_at_call 64; refine Calls.mono (unhide HG _ (unhide X1)) ?_; rintro e w2 ⟨rfl, hm, hf⟩; have R1 := hide hm; have F1 := hide hf; clear hm hf))
  go_end0
  exact ⟨rfl, unhide R1, (MF.of hg (unhide X1)).trans (unhide F1)⟩

set_option maxHeartbeats 4000000 in
theorem expr_bin (f : Nat) (IH : ExM f) (x : PN) (m m1 m' : GM) (hk : x.k = 11) (hE : gEs (gE f) x.l m = some m1) (hG : gG (m1.lay 5 x.o 0) = some m') (hm : m.ok = true) (hl : x.l.length ≤ 1000000) {nb no : Nat} (hN : NdAt w g x nb no) (hM : MK g w m sv lp) :
    Calls Tryz.prog 57 #[.pointer (some ⟨g, 0, none⟩), .pointer (some ⟨nb, no, none⟩)] w (MAns g w m' sv lp) := by
  have HO := hide (operands_m f IH x m m1 hE hm hl hN hM)
  obtain ⟨o1, o2, o3, o4, o5⟩ := ok_parts (gEs_ok (gE_ok f) x.l m m1 hm hE)
  obtain ⟨e1, e2⟩ := gG_some hG
  have HL := hide (fun (W : World) (hX : MK g W m1 sv lp) => lay_m hX (by omega) 5 x.o)
  have HN := hide hN
  subst e1
  obtain ⟨h1, a, cap, k0, k1, k2, k3, k4, hc, _⟩ := hN
  rw [hk] at k0
  clear hM hG hm e2 o1 o2 o3 o4 o5 hE IH
  go_enter Tryz.func57, Tryz.ntmps57
  go_wp2_with (first
    | (go_at_call 89; refine Calls.mono (unhide HO) ?_; rintro e w1 ⟨rfl, hm, hf⟩; have M1 := hide hm; have F1 := hide hf; clear k0 k1 k2 k3 k4; obtain ⟨_, a2, cap2, k0, k1, k2, k3, k4, _, _⟩ := (unhide HN).mf hf; clear hm hf)
    | (go_at_call 37; refine Calls.mono (unhide HL _ (unhide M1)) ?_; rintro e w2 ⟨rfl, hm, hf⟩; have R1 := hide hm; have F2 := hide hf; clear hm hf))
  go_end0
  exact ⟨rfl, unhide R1, (unhide F1).trans (unhide F2)⟩

set_option maxHeartbeats 4000000 in
theorem expr_list (f : Nat) (IH : ExM f) (x : PN) (m m1 m' : GM) (hk : x.k = 21) (hE : gEs (gE f) x.l m = some m1) (hG : gG (m1.lay 13 (x.l.length : Int) 0) = some m') (hm : m.ok = true) (hl : x.l.length ≤ 1000000) {nb no : Nat} (hN : NdAt w g x nb no) (hM : MK g w m sv lp) :
    Calls Tryz.prog 57 #[.pointer (some ⟨g, 0, none⟩), .pointer (some ⟨nb, no, none⟩)] w (MAns g w m' sv lp) := by
  have HO := hide (operands_m f IH x m m1 hE hm hl hN hM)
  obtain ⟨o1, o2, o3, o4, o5⟩ := ok_parts (gEs_ok (gE_ok f) x.l m m1 hm hE)
  obtain ⟨e1, e2⟩ := gG_some hG
  have HL := hide (fun (W : World) (hX : MK g W m1 sv lp) => lay_m hX (by omega) 13 (x.l.length : Int))
  have HN := hide hN
  subst e1
  obtain ⟨h1, a, cap, k0, k1, k2, k3, k4, hc, _⟩ := hN
  rw [hk] at k0
  clear hM hG hm e2 o1 o2 o3 o4 o5 hE IH
  go_enter Tryz.func57, Tryz.ntmps57
  go_wp2_with (first
    | (go_at_call 89; refine Calls.mono (unhide HO) ?_; rintro e w1 ⟨rfl, hm, hf⟩; have M1 := hide hm; have F1 := hide hf; clear k0 k1 k2 k3 k4; obtain ⟨_, a2, cap2, k0, k1, k2, k3, k4, _, _⟩ := (unhide HN).mf hf; clear hm hf)
    | (go_at_call 37; refine Calls.mono (unhide HL _ (unhide M1)) ?_; rintro e w2 ⟨rfl, hm, hf⟩; have R1 := hide hm; have F2 := hide hf; clear hm hf))
  go_end0
  exact ⟨rfl, unhide R1, (unhide F1).trans (unhide F2)⟩

set_option maxHeartbeats 8000000 in
theorem expr_call (f : Nat) (IH : ExM f) (x : PN) (m m1 m' : GM) (c : Int) (r : List Int) (hk : x.k = 20) (hE : gEs (gE f) x.l m = some m1) (hcl : m1.cl = c :: r) (hc0 : 0 ≤ c ∧ c ≤ 1000000) (hG : gG (({ m1 with cl := r } : GM).call c x.l.length) = some m') (hm : m.ok = true) (hl : x.l.length ≤ 1000000) {nb no : Nat} (hN : NdAt w g x nb no) (hM : MK g w m sv lp) :
    Calls Tryz.prog 57 #[.pointer (some ⟨g, 0, none⟩), .pointer (some ⟨nb, no, none⟩)] w (MAns g w m' sv lp) := by
  have HO := hide (operands_m f IH x m m1 hE hm hl hN hM)
  obtain ⟨o1, o2, o3, o4, o5⟩ := ok_parts (gEs_ok (gE_ok f) x.l m m1 hm hE)
  obtain ⟨e1, e2⟩ := gG_some hG
  have HX := hide (fun (W : World) (hX : MK g W m1 sv lp) => next_m c r hcl hX)
  have HL := hide (fun (W : World) (hX : MK g W { m1 with cl := r } sv lp) => call_m hX (by show m1.code.length ≤ 90000; omega) (by show 0 ≤ m1.tk ∧ m1.tk ≤ 1000000; omega) c x.l.length hc0 hl)
  have HN := hide hN
  subst e1
  obtain ⟨h1, a, cap, k0, k1, k2, k3, k4, hc, _⟩ := hN
  rw [hk] at k0
  have hg1 := hM.lt
  have hnb := h1
  clear hM hG hm e2 o1 o2 o3 o4 o5 hE IH hcl hc0
  go_enter Tryz.func57, Tryz.ntmps57
  go_wp2_with (go_at_call 89; refine Calls.mono (unhide HO) ?_; rintro e w1 ⟨rfl, hm, hf⟩; have M1 := hide hm; have F1 := hide hf; clear k0 k1 k2 k3 k4; have N1 := hide ((unhide HN).mf hf); obtain ⟨_, a2, cap2, k0, k1, k2, k3, k4, _, _⟩ := unhide N1; clear hm hf)
  have M2 : Hd (MK g w1.drew m1 sv lp) := (unhide M1).ext (Ext.drew (Ext.refl _))
  have F2 : Hd (MF g w w1.drew) := (unhide F1).trans (MF.of (unhide M1).lt (Ext.drew (Ext.refl _)))
  have N2 : Hd (NdAt w1.drew g x nb no) := (unhide N1).mf (MF.of (unhide M1).lt (Ext.drew (Ext.refl _)))
  refine wp_nrm ?_
  go_region_law (first
    | (refine step_call_one rfl 91 (.tmp 75) 156 rfl _ (by simp [Act.eval, Act.put]) (enterNext _ _) (Calls.mono (unhide HX _ (unhide M2)) ?_); rintro e w3 ⟨rfl, hm, hf⟩; have M3 := hide hm; have F3 := hide ((unhide F2).trans hf); obtain ⟨_, a3, cap3, j0, j1, j2, j3, j4, _, _⟩ := (unhide N2).mf hf; clear hm hf; refine ⟨_, rfl, ?_⟩)
    | (refine step_call_threeG rfl 90 (.tmp 72) (.tmp 76) (.tmp 81) 92 3 3 rfl _ _ _ (by simp [Act.eval, Act.put]) (by simp [Act.eval, Act.put]) (by simp [Act.eval, Act.put]) (enterCallG _ _ _ _) (Calls.mono (unhide HL _ (unhide M3)) ?_); rintro e w4 ⟨rfl, hm, hf⟩; have M4 := hide hm; have F4 := hide ((unhide F3).trans hf); clear hm hf; refine ⟨_, rfl, ?_⟩))
  all_goals
    refine nrm_out ?_
    go_wp2_with fail
    go_end0
    exact ⟨rfl, unhide M4, unhide F4⟩

theorem expr_m : ∀ f, ExM f
  | 0 => by
    intro x m m' h
    rw [gE] at h
    cases h
  | f + 1 => by
    intro x m m' h hm g w sv lp nb no hN hM
    rw [gE] at h
    split at h
    · rename_i hk
      exact expr_int x m m' hk h hm hN hM
    split at h
    · cases h
    rename_i hl
    have hl : x.l.length ≤ 1000000 := by omega
    split at h
    · rename_i hk
      split at h
      · cases h
      · rename_i m1 hE
        exact expr_bin f (expr_m f) x m m1 m' hk hE h hm hl hN hM
    split at h
    · rename_i hk
      split at h
      · cases h
      · rename_i m1 hE
        exact expr_list f (expr_m f) x m m1 m' hk hE h hm hl hN hM
    split at h
    · rename_i hk
      split at h
      · cases h
      · rename_i m1 hE
        split at h
        · cases h
        · rename_i c r hcl
          split at h
          · rename_i hc0
            exact expr_call f (expr_m f) x m m1 m' c r hk hE hcl hc0 h hm hl hN hM
          · cases h
    · cases h

end Go.Proofs.YtlgdjeiendmniaaGreatDoor

namespace Go.Proofs.YtlgdjeiendmniaaGreatDoor
open Go.RowKit

variable {g : Nat} {w w' w2 : World} {d : GM} {sv lp : Value}

theorem lay_len (m : GM) (a b c : Int) : (m.lay a b c).code.length = m.code.length + 1 := by simp [GM.lay]
theorem tick_len (m : GM) : m.tick.code.length = m.code.length + 1 := by simp [GM.tick, GM.lay]
theorem lead_len (m : GM) (j : Nat) : (m.lead j).code.length = m.code.length := by unfold GM.lead; split <;> simp
theorem give_len (m : GM) (v : Option Int) : (m.give v).code.length = m.code.length + 1 := by unfold GM.give; split <;> simp [GM.lay]
theorem call_len (m : GM) (c : Int) (k : Nat) : m.code.length ≤ (m.call c k).code.length := by
  unfold GM.call
  split
  · rw [lay_len, tick_len]; omega
  · split <;> rw [lay_len] <;> omega
theorem gEs_len {ex : PN → GM → Option GM} (hx : ∀ x m m', ex x m = some m' → m.code.length ≤ m'.code.length) : ∀ (l : List PN) (m m' : GM), gEs ex l m = some m' → m.code.length ≤ m'.code.length
  | [], m, m', e => by rw [gEs] at e; injection e with e; subst e; exact Nat.le_refl _
  | x :: r, m, m', e => by
    rw [gEs] at e
    cases hq : ex x m with
    | none => rw [hq] at e; cases e
    | some m1 => rw [hq] at e; exact Nat.le_trans (hx x m m1 hq) (gEs_len hx r m1 m' e)
theorem gE_len : ∀ (f : Nat) (x : PN) (m m' : GM), gE f x m = some m' → m.code.length ≤ m'.code.length
  | 0, x, m, m', h => by rw [gE] at h; cases h
  | f + 1, x, m, m', h => by
    rw [gE] at h
    split at h
    · obtain ⟨rfl, _⟩ := gG_some h; rw [give_len]; omega
    split at h
    · cases h
    split at h
    · split at h
      · cases h
      · rename_i m1 he; have := gEs_len (gE_len f) _ _ _ he; obtain ⟨rfl, _⟩ := gG_some h; rw [lay_len]; omega
    split at h
    · split at h
      · cases h
      · rename_i m1 he; have := gEs_len (gE_len f) _ _ _ he; obtain ⟨rfl, _⟩ := gG_some h; rw [lay_len]; omega
    split at h
    · split at h
      · cases h
      · rename_i m1 he
        have := gEs_len (gE_len f) _ _ _ he
        split at h
        · cases h
        · rename_i c r _
          split at h
          · obtain ⟨rfl, _⟩ := gG_some h
            refine Nat.le_trans this ?_
            have h7 := call_len ({ m1 with cl := r } : GM) c x.l.length
            exact h7
          · cases h
    · cases h
theorem gBl_len {ex : PN → GM → Option GM} (hx : ∀ x m m', ex x m = some m' → m.code.length ≤ m'.code.length) : ∀ (l : List PN) (m m' : GM), gBl ex l m = some m' → m.code.length ≤ m'.code.length
  | [], m, m', e => by rw [gBl] at e; injection e with e; subst e; exact Nat.le_refl _
  | x :: r, m, m', e => by
    rw [gBl] at e
    split at e
    · cases e
    cases hq : ex x m with
    | none => rw [hq] at e; cases e
    | some m1 => rw [hq] at e; exact Nat.le_trans (hx x m m1 hq) (gBl_len hx r m1 m' e)
theorem gBl_ok {ex : PN → GM → Option GM} (hx : ∀ x m m', m.ok = true → ex x m = some m' → m'.ok = true) : ∀ (l : List PN) (m m' : GM), m.ok = true → gBl ex l m = some m' → m'.ok = true
  | [], m, m', h, e => by rw [gBl] at e; injection e with e; subst e; exact h
  | x :: r, m, m', h, e => by
    rw [gBl] at e
    split at e
    · cases e
    cases hq : ex x m with
    | none => rw [hq] at e; cases e
    | some m1 => rw [hq] at e; exact gBl_ok hx r m1 m' (hx x m m1 h hq) e
theorem gS_both : ∀ (f : Nat) (x : PN) (m m' : GM), gS f x m = some m' → m.code.length ≤ m'.code.length ∧ (m.ok = true → m'.ok = true)
  | 0, x, m, m', h => by rw [gS] at h; cases h
  | f + 1, x, m, m', h => by
    rw [gS] at h
    split at h
    · cases h
    split at h
    · split at h
      · cases h
      · split at h
        · cases h
        · rename_i m1 he; have := gE_len f _ _ _ he; obtain ⟨rfl, h2⟩ := gG_some h; exact ⟨by rw [lay_len]; omega, fun _ => h2⟩
    split at h
    · split at h
      · cases h
      · split at h
        · cases h
        · rename_i m1 he; have := gE_len f _ _ _ he; obtain ⟨rfl, h2⟩ := gG_some h; exact ⟨by rw [lay_len]; omega, fun _ => h2⟩
    split at h
    · exact ⟨gBl_len (fun x m m' e => (gS_both f x m m' e).1) _ _ _ h, fun ho => gBl_ok (fun x m m' h e => (gS_both f x m m' e).2 h) _ _ _ ho h⟩
    split at h
    · split at h
      · split at h
        · cases h
        · rename_i m1 he
          have h1 := gE_len f _ _ _ he
          split at h
          · cases h
          · rename_i m2 he2
            obtain ⟨rfl, _⟩ := gG_some he2
            split at h
            · cases h
            · rename_i m3 he3
              have h3 := (gS_both f _ _ _ he3).1
              obtain ⟨rfl, h2⟩ := gG_some h
              rw [lay_len] at h3
              exact ⟨by rw [lead_len, lay_len, tick_len]; omega, fun _ => h2⟩
      · cases h
    · cases h

/-- A cell of a block that is neither the maker nor a row of it is set. -/
theorem MS.other {ka ca la : Option Addr} {kc cc lc : Nat} {bo i : Nat} {cs : Array Value} {t : TypeId} {fr : Nat × Nat} (h : MS g w d sv lp ka kc ca cc la lc) (hb : w.heap[bo]? = some (.cells cs t fr)) (hg : g < bo) (h1 : t ≠ 33) (h2 : t ≠ 124) (v : Value) : MS g (w.setCell ⟨bo, i, none⟩ v) d sv lp ka kc ca cc la lc := by
  have hk : ∀ {e : TypeId} {size n : Nat} {u : Value} {xs : List Value}, w.ownsRow (g + 1) e size u n xs → t ≠ e → (w.setCell ⟨bo, i, none⟩ v).ownsRow (g + 1) e size u n xs := by
    intro e size n u xs ho hne
    refine own_keepM ho (fun q hq => Below.heap_setCell _ _ _ _ (fun e2 => ?_))
    have e2 : q = bo := by first | exact e2 | exact e2.symm
    subst e2
    rcases ho.2 with ⟨e3, _⟩ | ⟨b2, cap, cur, e3, _, hrow, _⟩
    · rw [e3] at hq; cases hq
    · rw [e3] at hq
      simp only [Value.ownBlock, Option.some.injEq] at hq
      subst hq
      rw [hrow] at hb
      injection hb with hb
      injection hb with _ hb _
      exact hne hb.symm
  exact ⟨(Below.heap_setCell _ _ _ _ (by show g ≠ bo; omega)).trans h.row, hk h.ok h1, hk h.oc h2, h.cl.1, h.cl.2.to (fun q hq => ⟨hq, Below.heap_setCell _ _ _ _ (by show q ≠ bo; omega)⟩)⟩
theorem MK.other {bo i : Nat} {cs : Array Value} {t : TypeId} {fr : Nat × Nat} (h : MK g w d sv lp) (hb : w.heap[bo]? = some (.cells cs t fr)) (hg : g < bo) (h1 : t ≠ 33) (h2 : t ≠ 124) (v : Value) : MK g (w.setCell ⟨bo, i, none⟩ v) d sv lp := by
  obtain ⟨ka, kc, ca, cc, la, lc, h⟩ := h
  exact ⟨ka, kc, ca, cc, la, lc, h.other hb hg h1 h2 v⟩
theorem MF.setNew {bo i : Nat} (h : MF g w w') (hb : w.heap.size ≤ bo) (hg : g < bo) (v : Value) : MF g w (w'.setCell ⟨bo, i, none⟩ v) := by
  refine ⟨h.os, h.tape, h.output, by simpa [World.setCell] using h.size, fun q hq => ?_, fun q cs t fr hq h1 h2 h3 => ?_⟩
  · rw [Below.heap_setCell _ _ _ _ (by show q ≠ bo; omega)]; exact h.low q hq
  · have := (Array.getElem?_eq_some_iff.1 hq).1
    rw [Below.heap_setCell _ _ _ _ (by show q ≠ bo; omega)]
    exact h.typ q cs t fr hq h1 h2 h3

/-- What is asked of statement at smaller trees. -/
def StM (f : Nat) : Prop := ∀ (x : PN) (m m' : GM), gS f x m = some m' → m.ok = true → ∀ (g : Nat) (w : World) (sv : Value) (pp : Option Addr) (nb no : Nat), NdAt w g x nb no → MK g w m sv (.pointer pp) → Calls Tryz.prog 35 #[.pointer (some ⟨g, 0, none⟩), .pointer (some ⟨nb, no, none⟩)] w (MAns g w m' sv (.pointer pp))

def lenO (w : World) (b : Nat) : Nat := match w.cell? ⟨b, 0, none⟩ with
  | some (.slice _ n _) => n
  | _ => 0
theorem lenO_of {b n c : Nat} {a : Option Addr} (h : w.heap[b]? = some (.cells #[.slice a n c] 58 (0, 0))) : lenO w b = n := by have e := rowC h 0 (v := .slice a n c) rfl; unfold lenO; rw [e]

set_option maxHeartbeats 8000000 in
theorem block_m (f : Nat) (IH : StM f) (x : PN) (m m' : GM) (hE : gBl (gS f) x.l m = some m') (hm : m.ok = true) (hl : x.l.length ≤ 1000000) {nb no : Nat} {pp : Option Addr} (hN : NdAt w g x nb no) (hM : MK g w m sv (.pointer pp)) :
    Calls Tryz.prog 60 #[.pointer (some ⟨g, 0, none⟩), .pointer (some ⟨nb, no, none⟩)] w (MAns g w m' sv (.pointer pp)) := by
  have HI := hide IH
  have hg := hM.lt
  obtain ⟨h1, a, cap, k0, k1, k2, k3, k4, hc, hr⟩ := hN
  have HM := hide hM
  have HE := hide hE
  have HO := hide hm
  have HR := hide hr
  clear IH hM hE hm hr
  obtain ⟨bo, hbo⟩ : ∃ bo, bo = w.heap.size := ⟨_, rfl⟩
  go_enter Tryz.func60, Tryz.ntmps60
  go_wp2_with fail
  rw [← hbo]
  have hgo : g < bo := by omega
  have hbo2 : w.heap.size ≤ bo := by omega
  have HBO := hide hbo
  clear hbo
  go_loopw [4] (fun t wr => ∃ (b : Bool) (mj : GM), Hd (MK g wr mj sv (.pointer pp)) ∧ Hd (MF g w wr) ∧ Hd (mj.ok = true) ∧ ((b = true ∧ t = .slice (some ⟨bo, 0, none⟩) 0 1 ∧ mj = m') ∨ (b = false ∧ t = .slice (some ⟨bo, 0, none⟩) 1 1 ∧ ∃ (r : List PN) (ao : Option Addr) (co : Nat), Hd (wr.heap[bo]? = some (.cells #[.slice ao r.length co] 58 (0, 0))) ∧ r.length ≤ co ∧ Hd (RepNL wr (fun b => b < g) r ao) ∧ Hd (gBl (gS f) r mj = some m')))) (fun t wr => match t with
    | .slice _ 1 _ => lenO wr bo + 1
    | _ => 0)
  case atStart =>
    have X : Ext w (w.alloc (.cells #[.slice a x.l.length cap] 58)) := Ext.alloc _ _
    refine ⟨false, m, (unhide HM).ext X, MF.of hg X, HO, Or.inr ⟨rfl, rfl, x.l, a, cap, ?_, hc, RepNL.to (fun b hb => ⟨hb, X.block b (by omega)⟩) _ _ (unhide HR), HE⟩⟩
    rw [unhide HBO]
    exact Go.heap_alloc_new w _
  case round =>
    clear k0 k1 k2 k3 k4
    obtain ⟨b, mj, hMj, hF, hOj, hcase⟩ := hrel
    rcases hcase with ⟨rfl, rfl, rfl⟩ | ⟨rfl, rfl, r, ao, co, hB, hrc, hR, hEj⟩
    · go_wp2_with fail
      go_end0
      exact ⟨rfl, unhide hMj, unhide hF⟩
    · have c0 := rowC (unhide hB) 0 rfl
      have cf := rowF (unhide hB)
      have hm0 := lenO_of (unhide hB)
      cases r with
      | nil =>
        have hEq := unhide hEj
        rw [gBl] at hEq
        injection hEq with hEq
        subst hEq
        simp only [List.length_nil] at c0 hm0
        go_wp2_with fail
        go_roundw
        case rel => exact ⟨true, mj, hMj, hF, hOj, Or.inl ⟨rfl, by first | rfl | simp, rfl⟩⟩
        case measure => simp
      | cons q r =>
        have hEq := unhide hEj
        rw [gBl] at hEq
        split at hEq
        · cases hEq
        rename_i hk10
        cases hx : gS f q mj with
        | none => rw [hx] at hEq; cases hEq
        | some m1 =>
          rw [hx] at hEq
          have HE1 := hide hEq
          have hb := gS_both f q mj m1 hx
          have HO1 := hide (hb.2 (unhide hOj))
          obtain ⟨cb, cf2, rfl, hcb, a', cap', j0, j1, j2, j3, j4, hc', hl'⟩ := repNL_all (d := 0) (unhide hR) rfl
          have hrr : RepNL wr (fun b => b < g) r (some ⟨cb, cf2 + 5, none⟩) := by
            have := unhide hR
            rw [RepNL] at this
            obtain ⟨b2, off2, _, _, _, _, _, e, _, _, _, _, _, _, _, h⟩ := this
            injection e with e
            injection e with e1 e2
            subst e1 e2
            exact h
          have HRR := hide hrr
          simp only [Nat.zero_mul, Nat.add_zero] at j0 j1 j2 j3 j4
          have hNd : NdAt wr g q cb cf2 := ⟨hcb, a', cap', j0, j1, j2, j3, j4, hc', hl'⟩
          have hk1 : (q.k == 10) = false := by rw [beq_eq_false_iff_ne]; exact hk10
          simp only [List.length_cons] at c0 hrc hm0
          have hgo : g < bo := by omega
          have hcbo : cb ≠ bo := by omega
          by_cases hco : co = 1
          · subst hco
            have hr0 : r.length = 0 := by omega
            have hr : r = [] := List.length_eq_zero_iff.1 hr0
            subst hr
            simp only [List.length_nil, Nat.zero_add] at c0
            have HS : Hd (MK g (wr.setCell ⟨bo, 0, none⟩ (.slice (some ⟨cb, cf2, none⟩) 0 0)) mj sv (.pointer pp)) := (unhide hMj).other (unhide hB) hgo (by decide) (by decide) _
            have HF2 : Hd (MF g w (wr.setCell ⟨bo, 0, none⟩ (.slice (some ⟨cb, cf2, none⟩) 0 0))) := (unhide hF).setNew (by omega) hgo _
            have HB2 : Hd ((wr.setCell ⟨bo, 0, none⟩ (.slice (some ⟨cb, cf2, none⟩) 0 0)).heap[bo]? = some (.cells #[.slice (some ⟨cb, cf2, none⟩) 0 0] 58 (0, 0))) := row_set (unhide hB) 0 _
            have HX := hide (unhide HI q mj m1 hx (unhide hOj) g _ sv pp cb cf2 (hNd.low (fun b hb => Below.heap_setCell _ _ _ _ (by show b ≠ bo; omega))) (unhide HS))
            clear hEq hx hNd hrr hEj hMj hR hb
            go_wp2_with (go_at_call 35; go_loud (refine Calls.mono (unhide HX) ?_); rintro e w1 ⟨rfl, hm, hf⟩; have M1 := hide hm; have F1 := hide ((unhide HF2).trans hf); have B1 := hide (hf.typ bo _ _ _ (unhide HB2) (by omega) (by decide) (by decide)); clear hm hf)
            have hm1 := lenO_of (unhide B1)
            go_roundw
            case rel => exact ⟨false, m1, M1, F1, HO1, Or.inr ⟨rfl, by first | rfl | simp, [], _, 0, B1, Nat.le_refl _, by simp [Hd, RepNL], HE1⟩⟩
            case measure => simp [hm0, hm1]
          · have HS : Hd (MK g (wr.setCell ⟨bo, 0, none⟩ (.slice (some ⟨cb, cf2 + 5, none⟩) r.length (co - 1))) mj sv (.pointer pp)) := (unhide hMj).other (unhide hB) hgo (by decide) (by decide) _
            have HF2 : Hd (MF g w (wr.setCell ⟨bo, 0, none⟩ (.slice (some ⟨cb, cf2 + 5, none⟩) r.length (co - 1)))) := (unhide hF).setNew (by omega) hgo _
            have HB2 : Hd ((wr.setCell ⟨bo, 0, none⟩ (.slice (some ⟨cb, cf2 + 5, none⟩) r.length (co - 1))).heap[bo]? = some (.cells #[.slice (some ⟨cb, cf2 + 5, none⟩) r.length (co - 1)] 58 (0, 0))) := row_set (unhide hB) 0 _
            have HX := hide (unhide HI q mj m1 hx (unhide hOj) g _ sv pp cb cf2 (hNd.low (fun b hb => Below.heap_setCell _ _ _ _ (by show b ≠ bo; omega))) (unhide HS))
            have HR3 : Hd (RepNL (wr.setCell ⟨bo, 0, none⟩ (.slice (some ⟨cb, cf2 + 5, none⟩) r.length (co - 1))) (fun b => b < g) r (some ⟨cb, cf2 + 5, none⟩)) := RepNL.to (fun b hb => ⟨hb, Below.heap_setCell _ _ _ _ (by show b ≠ bo; omega)⟩) _ _ (unhide HRR)
            have hco2 : (r.length : Int) + 1 ≤ (co : Int) := by omega
            clear hEq hx hNd hrr hEj hMj hR hb HRR
            go_wp2_with (go_at_call 35; go_loud (refine Calls.mono (unhide HX) ?_); rintro e w1 ⟨rfl, hm, hf⟩; have M1 := hide hm; have F1 := hide ((unhide HF2).trans hf); have B1 := hide (hf.typ bo _ _ _ (unhide HB2) (by omega) (by decide) (by decide)); have R1 : Hd (RepNL w1 (fun b => b < g) r (some ⟨cb, cf2 + 5, none⟩)) := RepNL.to (fun b hb => ⟨hb, hf.low b hb⟩) _ _ (unhide HR3); clear hm hf)
            have hm1 := lenO_of (unhide B1)
            go_roundw
            case rel => exact ⟨false, m1, M1, F1, HO1, Or.inr ⟨rfl, by first | rfl | simp, r, _, co - 1, B1, by omega, R1, HE1⟩⟩
            case measure => simp [hm0, hm1]

end Go.Proofs.YtlgdjeiendmniaaGreatDoor

namespace Go.Proofs.YtlgdjeiendmniaaGreatDoor
open Go.RowKit

variable {g : Nat} {w w' w2 : World} {d : GM} {sv lp : Value}

theorem MK.setLp (h : MK g w d sv lp) (v : Value) : MK g (w.setCell ⟨g, 5, none⟩ v) d sv v := by
  obtain ⟨ka, kc, ca, cc, la, lc, h⟩ := h
  exact ⟨ka, kc, ca, cc, la, lc, h.setLp v⟩
theorem MK.cells (h : MK g w d sv lp) : ∃ ka kc, w.cell? ⟨g, 0, none⟩ = some (.slice ka d.code.length kc) ∧ w.cell? ⟨g, 5, none⟩ = some lp ∧ ∀ i, w.frozen? ⟨g, i, none⟩ = false := by
  obtain ⟨ka, kc, ca, cc, la, lc, h⟩ := h
  obtain ⟨c0, c1, c2, c3, c4, c5, zf⟩ := mk_c h.row
  exact ⟨ka, kc, c0, c5, zf⟩

set_option maxHeartbeats 8000000 in
theorem while_m (f : Nat) (IH : StM f) (x y z : PN) (r : List PN) (m m1 m2 m3 m' : GM) (hl : x.l = y :: z :: r) (hE1 : gE f y m = some m1) (hE2 : gG (m1.lay 8 0 0) = some m2) (hE3 : gS f z m2 = some m3) (hG : gG ((m3.tick.lay 7 (m.code.length : Int) 0).lead m1.code.length) = some m') (hm : m.ok = true) (hl2 : x.l.length ≤ 1000000) {nb no : Nat} {pp : Option Addr} (hN : NdAt w g x nb no) (hM : MK g w m sv (.pointer pp)) :
    Calls Tryz.prog 62 #[.pointer (some ⟨g, 0, none⟩), .pointer (some ⟨nb, no, none⟩)] w (MAns g w m' sv (.pointer pp)) := by
  have hg := hM.lt
  have hnb := hN.1
  obtain ⟨bl, hbl⟩ : ∃ bl, bl = w.heap.size := ⟨_, rfl⟩
  obtain ⟨wc, hwc⟩ : ∃ wc, wc = (w.setCell ⟨g, 5, none⟩ (.pointer (some ⟨w.heap.size, 0, none⟩))).alloc (.cells #[.slice none 0 0, .slice none 0 0] 127) := ⟨_, rfl⟩
  have hsz : (w.setCell ⟨g, 5, none⟩ (.pointer (some ⟨w.heap.size, 0, none⟩))).heap.size = w.heap.size := by simp [World.setCell]
  have rl : wc.heap[bl]? = some (.cells #[.slice none 0 0, .slice none 0 0] 127 (0, 0)) := by
    have h7 := Go.heap_alloc_new (w.setCell ⟨g, 5, none⟩ (.pointer (some ⟨w.heap.size, 0, none⟩))) (.cells #[.slice none 0 0, .slice none 0 0] 127)
    rw [hsz] at h7
    rw [hwc, hbl]
    exact h7
  have hgb : g < bl := by omega
  have Mc : MK g wc m sv (.pointer (some ⟨bl, 0, none⟩)) := by rw [hwc, hbl]; exact (hM.setLp _).ext (Ext.alloc _ _)
  have Fc : MF g w wc := by rw [hwc]; exact ((MF.refl g w).set 5 _).trans (MF.of (by rw [hsz]; exact hg) (Ext.alloc _ _))
  have RL := hide rl
  obtain ⟨ca0, cp0, cc0, hca0, hcc0, nc0⟩ := (hN.mf Fc).child (i := 0) (q := y) (by rw [hl]; rfl)
  rw [Nat.zero_mul, Nat.add_zero] at nc0
  have ho1 := gE_ok f y m m1 hE1
  have ho2 := (gG_some hE2).2
  have ho3 := (gS_both f z m2 m3 hE3).2 ho2
  have hlen3 := (gS_both f z m2 m3 hE3).1
  have em2 := (gG_some hE2).1
  have em' := (gG_some hG).1
  have hlen2 : m1.code.length + 1 ≤ m3.code.length := by rw [← em2, lay_len] at hlen3; exact hlen3
  have hlen5 : (m3.tick.lay 7 (m.code.length : Int) 0).code.length = m3.code.length + 2 := by rw [lay_len, tick_len]
  obtain ⟨p1, p2, p3, p4, p5⟩ := ok_parts ho1
  obtain ⟨q1, q2, q3, q4, q5⟩ := ok_parts ho3
  have tkn := tick_len m3
  have HX := hide (expr_m f y m m1 hE1 hm g wc sv _ ca0 cp0 nc0 Mc)
  have HA := hide (fun (W : World) (hX : MK g W m1 sv (.pointer (some ⟨bl, 0, none⟩))) => ahead_m hX (by omega) 8)
  have HSt := hide (fun (W : World) (nb no : Nat) (h1 : NdAt W g z nb no) (hX : MK g W m2 sv (.pointer (some ⟨bl, 0, none⟩))) => IH z m2 m3 hE3 ho2 g W sv _ nb no h1 hX)
  have HT := hide (fun (W : World) (hX : MK g W m3 sv (.pointer (some ⟨bl, 0, none⟩))) => tick_m hX (by omega) (by omega))
  have HL := hide (fun (W : World) (hX : MK g W m3.tick sv (.pointer (some ⟨bl, 0, none⟩))) => lay_m hX (by omega) 7 (m.code.length : Int))
  have HLd := hide (fun (W : World) (bm ba : Nat) (hX : MK g W (m3.tick.lay 7 (m.code.length : Int) 0) sv (.pointer (some ⟨bl, 0, none⟩))) (hJ : JmpAt g W m1.code.length bm ba) => lead_m hX (by omega) (by omega) hJ)
  have HN2 : Hd (∀ W, MF g w W → ∃ cb co cap, W.cell? ⟨nb, no + 4, none⟩ = some (.slice (some ⟨cb, co, none⟩) x.l.length cap) ∧ x.l.length ≤ cap ∧ NdAt W g z cb (co + 5)) := fun W hW => by
    obtain ⟨cb, co, cap, e1, e2, e3⟩ := (hN.mf hW).child (i := 1) (q := z) (by rw [hl]; rfl)
    exact ⟨cb, co, cap, e1, e2, by rw [Nat.one_mul] at e3; exact e3⟩
  obtain ⟨ka, kc, c0, c5, zf⟩ := hM.cells
  obtain ⟨kc2, kcc2, e0, e5, zf2⟩ := Mc.cells
  have hxl : 2 ≤ x.l.length := by rw [hl]; simp
  have hxl0 : (0 : Int) < (x.l.length : Int) := by omega
  have hxl1 : (1 : Int) < (x.l.length : Int) := by omega
  have k4 : w.cell? ⟨nb, no + 4, none⟩ = some (.slice (some ⟨ca0, cp0, none⟩) x.l.length cc0) := by rw [← World.cell?_of_block (w := w) (Fc.low nb hnb)]; exact hca0
  have hnb2 : nb ≠ g := by omega
  have hnb3 : nb < w.heap.size := by omega
  have FC := hide Fc
  have EM2 := hide em2
  have EM := hide em'
  clear hE1 hE2 hE3 hG hm IH ho1 ho2 ho3 hl hN hM rl nc0 hca0 hlen2 hlen3 hlen5 tkn p1 p2 p3 p4 p5 q1 q2 q3 q4 q5 Mc Fc em2 em' hsz
  generalize x.l.length = nl at *
  have HBL := hide hbl
  clear hbl
  go_enter Tryz.func62, Tryz.ntmps62
  go_wp2_with (first
    | (go_at_call 57; rw [hwc] at HX; refine Calls.mono (unhide HX) ?_; rintro e w1 ⟨rfl, hm, hf⟩; have M1 := hide hm; rw [← hwc] at hf; have F1 := hide ((unhide FC).trans hf); have L1 := hide (hf.typ bl _ _ _ (unhide RL) (by omega) (by decide) (by decide)); clear hm hf c0 c5 zf e0 e5 zf2 k4)
    | (go_at_call 63; refine Calls.mono (unhide HA _ (unhide M1)) ?_; rintro e w2 ⟨bm, ba, rfl, hm, hf, hj⟩; have M2 := hide hm; have F2 := hide ((unhide F1).trans hf); have L2 := hide (hf.typ bl _ _ _ (unhide L1) (by omega) (by decide) (by decide)); have J2 := hide hj; obtain ⟨cb, co, cap4, k4, hcap4, hnd⟩ := unhide HN2 _ (unhide F2); have ND := hide hnd; clear hm hf hj hnd)
    | (go_at_call 35; refine Calls.mono (unhide HSt _ _ _ (unhide ND) (by have h8 := unhide M2; rw [unhide EM2] at h8; exact h8)) ?_; rintro e w3 ⟨rfl, hm, hf⟩; have M3 := hide hm; have F3 := hide ((unhide F2).trans hf); have L3 := hide (hf.typ bl _ _ _ (unhide L2) (by omega) (by decide) (by decide)); have J3 := hide ((unhide J2).mf hf); obtain ⟨ka3, kc3, c0, c5, zf⟩ := hm.cells; have l0 := rowC (unhide L3) 0 rfl; have l1 := rowC (unhide L3) 1 rfl; clear hm hf k4)
    | (go_at_call 92; refine Calls.mono (land_nil none 0) ?_; rintro e w9 ⟨rfl, hw⟩; obtain rfl := hw.symm)
    | (go_at_call 93; refine Calls.mono (unhide HT _ (unhide M3)) ?_; rintro e w4 ⟨rfl, hm, hf⟩; have M4 := hide hm; have F4 := hide ((unhide F3).trans hf); have L4 := hide (hf.typ bl _ _ _ (unhide L3) (by omega) (by decide) (by decide)); have J4 := hide ((unhide J3).mf hf); clear hm hf c0 c5 zf l0 l1)
    | (go_at_call 37; refine Calls.mono (unhide HL _ (unhide M4)) ?_; rintro e w5 ⟨rfl, hm, hf⟩; have M5 := hide hm; have F5 := hide ((unhide F4).trans hf); have L5 := hide (hf.typ bl _ _ _ (unhide L4) (by omega) (by decide) (by decide)); have J5 := hide ((unhide J4).mf hf); clear hm hf)
    | (go_at_call 94; refine Calls.mono (unhide HLd _ _ _ (unhide M5) (unhide J5)) ?_; rintro e w6 ⟨rfl, hm, hf⟩; have M6 := hide hm; have F6 := hide ((unhide F5).trans hf); have L6 := hide (hf.typ bl _ _ _ (unhide L5) (by omega) (by decide) (by decide)); obtain ⟨ka6, kc6, c0, c5, zf⟩ := hm.cells; have l0 := rowC (unhide L6) 0 rfl; have l1 := rowC (unhide L6) 1 rfl; clear hm hf))
  go_end0
  exact ⟨rfl, by rw [← unhide EM]; exact (unhide M6).setLp (.pointer pp), (unhide F6).set 5 _⟩

set_option maxHeartbeats 4000000 in
theorem stmt_lay (f : Nat) (op k : Int) (x y : PN) (r : List PN) (m m1 m' : GM) (hop : (k = 9 ∧ op = 4) ∨ (k = 8 ∧ op = 11)) (hk : x.k = k) (hl : x.l = y :: r) (hl2 : x.l.length ≤ 1000000) (hE : gE f y m = some m1) (hG : gG (m1.lay op 0 0) = some m') (hm : m.ok = true) {nb no : Nat} (hN : NdAt w g x nb no) (hM : MK g w m sv lp) :
    Calls Tryz.prog 35 #[.pointer (some ⟨g, 0, none⟩), .pointer (some ⟨nb, no, none⟩)] w (MAns g w m' sv lp) := by
  obtain ⟨ca0, cp0, cc0, k4, hcc0, nc0⟩ := hN.child (i := 0) (q := y) (by rw [hl]; rfl)
  rw [Nat.zero_mul, Nat.add_zero] at nc0
  have HX := hide (expr_m f y m m1 hE hm g w sv lp ca0 cp0 nc0 hM)
  obtain ⟨p1, p2, p3, p4, p5⟩ := ok_parts (gE_ok f y m m1 hE)
  have HL := hide (fun (W : World) (hX : MK g W m1 sv lp) => lay_m hX (by omega) op 0)
  obtain ⟨e1, _⟩ := gG_some hG
  subst e1
  have hxl : (0 : Int) < (x.l.length : Int) := by rw [hl]; simp
  obtain ⟨_, a, cap, k0, _, _, _, _, _, _⟩ := hN
  rw [hk] at k0
  clear hE hG hm hM nc0 hl p1 p2 p3 p4 p5 hk
  generalize x.l.length = nl at *
  rcases hop with ⟨rfl, rfl⟩ | ⟨rfl, rfl⟩
  · go_enter Tryz.func35, Tryz.ntmps35
    go_wp2_with (first
      | (go_at_call 57; refine Calls.mono (unhide HX) ?_; rintro e w1 ⟨rfl, hm, hf⟩; have M1 := hide hm; have F1 := hide hf; clear hm hf)
      | (go_at_call 37; refine Calls.mono (unhide HL _ (unhide M1)) ?_; rintro e w2 ⟨rfl, hm, hf⟩; have R1 := hide hm; have F2 := hide hf; clear hm hf))
    go_end0
    exact ⟨rfl, unhide R1, (unhide F1).trans (unhide F2)⟩
  · go_enter Tryz.func35, Tryz.ntmps35
    go_wp2_with (first
      | (go_at_call 57; refine Calls.mono (unhide HX) ?_; rintro e w1 ⟨rfl, hm, hf⟩; have M1 := hide hm; have F1 := hide hf; clear hm hf)
      | (go_at_call 37; refine Calls.mono (unhide HL _ (unhide M1)) ?_; rintro e w2 ⟨rfl, hm, hf⟩; have R1 := hide hm; have F2 := hide hf; clear hm hf))
    go_end0
    exact ⟨rfl, unhide R1, (unhide F1).trans (unhide F2)⟩

set_option maxHeartbeats 2000000 in
theorem stmt_block (f : Nat) (IH : StM f) (x : PN) (m m' : GM) (hk : x.k = 10) (hE : gBl (gS f) x.l m = some m') (hm : m.ok = true) (hl : x.l.length ≤ 1000000) {nb no : Nat} {pp : Option Addr} (hN : NdAt w g x nb no) (hM : MK g w m sv (.pointer pp)) :
    Calls Tryz.prog 35 #[.pointer (some ⟨g, 0, none⟩), .pointer (some ⟨nb, no, none⟩)] w (MAns g w m' sv (.pointer pp)) := by
  have HB := hide (block_m f IH x m m' hE hm hl hN hM)
  obtain ⟨_, a, cap, k0, _, _, _, _, _, _⟩ := hN
  rw [hk] at k0
  clear hM IH hE hm hk
  go_enter Tryz.func35, Tryz.ntmps35
  go_wp2_with (go_at_call 60; refine Calls.mono (unhide HB) ?_; rintro e w1 ⟨rfl, hm, hf⟩; have M1 := hide hm; have F1 := hide hf; clear hm hf)
  go_end0
  exact ⟨rfl, unhide M1, unhide F1⟩

set_option maxHeartbeats 2000000 in
theorem stmt_while (x : PN) (m m' : GM) (hk : x.k = 4) {nb no : Nat} {pp : Option Addr} (hN : NdAt w g x nb no) (HW : Calls Tryz.prog 62 #[.pointer (some ⟨g, 0, none⟩), .pointer (some ⟨nb, no, none⟩)] w (MAns g w m' sv (.pointer pp))) :
    Calls Tryz.prog 35 #[.pointer (some ⟨g, 0, none⟩), .pointer (some ⟨nb, no, none⟩)] w (MAns g w m' sv (.pointer pp)) := by
  have HB := hide HW
  obtain ⟨_, a, cap, k0, _, _, _, _, _, _⟩ := hN
  rw [hk] at k0
  clear HW hk
  go_enter Tryz.func35, Tryz.ntmps35
  go_wp2_with (go_at_call 62; refine Calls.mono (unhide HB) ?_; rintro e w1 ⟨rfl, hm, hf⟩; have M1 := hide hm; have F1 := hide hf; clear hm hf)
  go_end0
  exact ⟨rfl, unhide M1, unhide F1⟩

theorem stmt_m : ∀ f, StM f
  | 0 => by
    intro x m m' h
    rw [gS] at h
    cases h
  | f + 1 => by
    intro x m m' h hm g w sv pp nb no hN hM
    rw [gS] at h
    split at h
    · cases h
    rename_i hl
    have hl : x.l.length ≤ 1000000 := by omega
    split at h
    · rename_i hk
      split at h
      · cases h
      · rename_i y r hxl
        split at h
        · cases h
        · rename_i m1 hE
          exact stmt_lay f 4 9 x y r m m1 m' (Or.inl ⟨rfl, rfl⟩) hk hxl hl hE h hm hN hM
    split at h
    · rename_i hk
      split at h
      · cases h
      · rename_i y r hxl
        split at h
        · cases h
        · rename_i m1 hE
          exact stmt_lay f 11 8 x y r m m1 m' (Or.inr ⟨rfl, rfl⟩) hk hxl hl hE h hm hN hM
    split at h
    · rename_i hk
      exact stmt_block f (stmt_m f) x m m' hk h hm hl hN hM
    split at h
    · rename_i hk
      split at h
      · rename_i y z r hxl
        split at h
        · cases h
        · rename_i m1 hE1
          split at h
          · cases h
          · rename_i m2 hE2
            split at h
            · cases h
            · rename_i m3 hE3
              exact stmt_while x m m' hk hN (while_m f (stmt_m f) x y z r m m1 m2 m3 m' hxl hE1 hE2 hE3 h hm hl hN hM)
      · cases h
    · cases h

end Go.Proofs.YtlgdjeiendmniaaGreatDoor

namespace Go.Proofs.YtlgdjeiendmniaaGreatDoor
open Go.RowKit Go.Maps

/-- Of each kind: the least and the most parts, and how many of them are expressions. -/
def shpL : List (Int × Int × Int) := [(0, 0, 0), (1, 1, 1), (1, 1, 1), (2, 3, 1), (2, 2, 1), (0, 0, 0), (0, 0, 0), (0, 1, 1), (1, 1, 1), (1, 1, 1), (0, 9223372036854775807, 0), (2, 2, 2), (2, 2, 2), (2, 2, 2), (1, 1, 1), (0, 0, 0), (0, 0, 0), (0, 0, 0), (0, 0, 0), (0, 0, 0), (0, 8, 8), (0, 64, 64)]
def isSt (k : Int) : Bool := decide (1 ≤ k ∧ k ≤ 10)
def isEx (k : Int) : Bool := decide (11 ≤ k ∧ k ≤ 21)
/-- Are they expressions first, statements behind those? -/
def prtL (e : Int) : List PN → Int → Bool
  | [], _ => true
  | x :: r, i => (if i < e then isEx x.k else isSt x.k) && prtL e r (i + 1)
/-- Has a node its parts? None: its kind is none. -/
def hasP (x : PN) : Option Bool := if 0 ≤ x.k then (match shpL[x.k.toNat]? with
  | none => none
  | some (a, b, e) => if (x.l.length : Int) < a ∨ b < (x.l.length : Int) then some false else some (prtL e x.l 0)) else none
/-- May all be laid that is open (the last of it first), with so many instructions so far? None: not so soon, or there is a text. -/
def canL : Nat → List PN → Nat → Option Bool
  | 0, _, _ => none
  | _ + 1, [], c => some (decide (c ≤ 1000))
  | f + 1, x :: r, c => if 1000 < c then some false else if x.k = 17 ∨ 1000000 < x.l.length ∨ 1000000 < r.length then none else match hasP x with
    | none => none
    | some false => some false
    | some true => canL f (x.l.reverse ++ r) (if x.k = 10 then c else c + 1)
def canP (f : Nat) (x : PN) : Option Bool := if isSt x.k then canL f [x] 0 else some false

/-- The functions' code, one behind the other: some of it, or none (one cannot be laid). -/
def gFns (f : Nat) : List PFn → List PSc → Int → List V.KF → Option (Option (List V.KF))
  | [], _, _, acc => some (some acc)
  | p :: r, [], _, acc => none
  | p :: r, s :: q, tk, acc => match canP 100000 p.bd with
    | none => none
    | some false => some none
    | some true => match gFn f p.bd s.cl tk with
      | none => none
      | some m => gFns f r q m.tk (acc ++ [⟨p.nm, (p.ps.length : Int), s.lc, m.cs.map gcP, m.code⟩])
/-- Is one of them too great? -/
def gGreat (K : Nat) (fns : List V.KF) : Nat → Nat → Option Bool
  | 0, _ => some false
  | k + 1, j => match V.kVirt fns (j : Int) K with
    | none => none
    | some v => if v.2 = 0 then gGreat K fns k (j + 1) else some true
def mainBs : List UInt8 := [109, 97, 105, 110]
def mainIx : List PFn → Nat → Int
  | [], _ => -1
  | p :: r, i => if p.nm.data.toList = mainBs then (i : Int) else mainIx r (i + 1)
/-- Are its numbers such that all goes well? -/
def kfOk (f : V.KF) : Bool := decide (f.cs.length ≤ 1000000) && (decide (f.code.length ≤ 1000000) && f.code.all (fun i => decide (-9223372036854775808 ≤ i.a ∧ i.a ≤ 9223372036854775807 ∧ -9223372036854775808 ≤ i.b ∧ i.b ≤ 9223372036854775807)))
/-- What programOf tells: the error, the functions, main. -/
def gPrg (f K : Nat) (fs : List PFn) (sc : List PSc) : Option (Int × List V.KF × Int) := match gFns f fs sc 0 [] with
  | none => none
  | some none => some (5, [], 0)
  | some (some fns) => if fns.all kfOk then (match gGreat K fns fns.length 0 with
    | none => none
    | some true => some (5, [], 0)
    | some false => some (0, fns, mainIx fs 0)) else none
/-- What Source tells: the error, the place, the functions, main. -/
def gSrc (s : ByteArray) (f f2 f3 K : Nat) : Option (Int × Int × List V.KF × Int) := match srcP s f f2 with
  | none => none
  | some r => if r.e = 0 then (match gPrg f3 K r.fs r.sc with
      | none => none
      | some (e, fns, m) => some (e, 0, fns, m)) else some (r.e, r.pl, [], 0)
end Go.Proofs.YtlgdjeiendmniaaGreatDoor
