/- The document's Loops. -/
import Derived.Test.YtpfjafjpijmckaaGrLh
import Derived.Test.YtpfjafjpijmckaaGrLz
import Derived.Test.YtpfjafjpijmckaaGrDg
import Derived.Test.YtpfjafjpijmckaaGrCd
import Derived.Test.YtpfjafjpijmckaaGrGw
set_option linter.unusedSimpArgs false
set_option linter.unusedVariables false
set_option maxRecDepth 10000
namespace Go.Proofs.Ytpfjafjpijmckaa
open Go.RowKit

theorem k_infoM : ∃ i0, Try.prog.info? 44 = some i0 ∧ i0.zero = some (.agg #[.int .i64 0, .slice none 0 0, .int .i64 0]) ∧ i0.size = 3 ∧ i0.bytes = 40 := by
  have h : (Try.prog.info? 44).map (fun i => (i.zero, i.size, i.bytes)) = some (some (.agg #[.int .i64 0, .slice none 0 0, .int .i64 0]), 3, 40) := by kernel_rfl
  cases hi : Try.prog.info? 44 with
  | none => rw [hi] at h; cases h
  | some i =>
    rw [hi] at h
    simp at h
    exact ⟨i, rfl, h.1, h.2.1, h.2.2⟩
theorem one_gm (x : GL) (a : Option Addr × Nat) : ∀ u ∈ glC x a, u.oneCell' = true := by
  intro u hu
  simp [glC] at hu
  rcases hu with rfl | rfl | rfl <;> rfl
/-- A list under way. -/
structure TlI (wp wz : World) (l : List Nat) (la : Option Addr) (lc : Nat) : Prop where
  ext : Ext wp wz
  own : wz.ownsRow wp.heap.size 3 1 (.slice la l.length lc) l.length (ns l)
theorem TlI.push {wp wz w3 : World} {l : List Nat} {la : Option Addr} {lc : Nat} {ob : Obj} {g' cap' : Nat} (h : TlI wp wz l la lc) (x : Nat)
    (g1 : (wz.alloc ob).grownBy w3 (Value.slice la l.length lc).ownBlock) (ho : w3.ownsRow wp.heap.size 3 1 (.slice (some ⟨g', 0, none⟩) (l.length + 1) cap') (l.length + 1) (ns l ++ [.int .i64 (x : Int)])) : TlI wp w3 (l ++ [x]) (some ⟨g', 0, none⟩) cap' := by
  have hX := h.ext.trans (Ext.alloc wz ob)
  exact ⟨Below.grown hX g1 hX.size (fun j hj => (h.own.lt j hj).1), by simpa [ns] using ho⟩
abbrev bxC (h : Nat) (l : List Nat) (ba : Option Addr) (bc : Nat) : List Value := [.int .i64 (h : Int), .slice ba l.length bc, .int .i64 (-1)]
/-- A Loop under way in a box. -/
structure BdI (w3 wz : World) (h : Nat) (l : List Nat) (ba : Option Addr) (bc : Nat) : Prop where
  ext : Ext w3 wz
  row : Row wz w3.heap.size 44 (bxC h l ba bc)
  own : wz.ownsRow (w3.heap.size + 1) 3 1 (.slice ba l.length bc) l.length (ns l)
theorem BdI.on {w3 wz w' : World} {h : Nat} {l : List Nat} {ba : Option Addr} {bc : Nat} (b : BdI w3 wz h l ba bc) (k : Ext wz w') : BdI w3 w' h l ba bc :=
  ⟨b.ext.trans k, b.row.on k, k_own_heap b.own (fun j hj => k.block j (b.own.lt j hj).2)⟩
theorem BdI.push {w3 wz w' : World} {h : Nat} {l : List Nat} {ba : Option Addr} {bc : Nat} {ob : Obj} {g' cap' : Nat} (b : BdI w3 wz h l ba bc) (x : Nat)
    (g1 : (wz.alloc ob).grownBy w' (Value.slice ba l.length bc).ownBlock) (ho : w'.ownsRow (w3.heap.size + 1) 3 1 (.slice (some ⟨g', 0, none⟩) (l.length + 1) cap') (l.length + 1) (ns l ++ [.int .i64 (x : Int)])) :
    Row w' w3.heap.size 44 (bxC h l ba bc) ∧ BdI w3 (w'.setCell ⟨w3.heap.size, 1, none⟩ (.slice (some ⟨g', 0, none⟩) (l.length + 1) cap')) h (l ++ [x]) (some ⟨g', 0, none⟩) cap' := by
  have hX := b.ext.trans (Ext.alloc wz ob)
  have e : Ext w3 w' := Below.grown hX g1 hX.size (fun j hj => by have := (b.own.lt j hj).1; omega)
  have r : Row w' w3.heap.size 44 (bxC h l ba bc) := (b.row.on (Ext.alloc wz ob)).grown g1 (fun c => by have := (b.own.lt _ c.symm).1; omega)
  refine ⟨r, e.set (p := ⟨w3.heap.size, 1, none⟩) (Nat.le_refl _) _, ?_, ?_⟩
  · have := r.set 1 (.slice (some ⟨g', 0, none⟩) (l.length + 1) cap')
    simpa [bxC] using this
  · have e2 : ns l ++ [.int .i64 (x : Int)] = ns (l ++ [x]) := by simp [ns]
    rw [← e2, List.length_append]
    refine k_own_heap ho (fun j hj => Below.heap_setCell _ _ _ _ (fun c => ?_))
    have := (ho.lt j hj).1
    have c : w3.heap.size = j := by first | exact c | exact c.symm
    omega
def lpH (n : Nat) (hb : Nat → Bool) (B : Nat → Nat → Bool) (h : Nat) : List GL := ((List.range h).filter hb).map (fun h => (⟨h, (List.range n).filter (B h), none⟩ : GL))
theorem lpH_no {n : Nat} {hb : Nat → Bool} {B : Nat → Nat → Bool} {h : Nat} (e : hb h = false) : lpH n hb B (h + 1) = lpH n hb B h := by unfold lpH; rw [List.range_succ, List.filter_append]; simp [e]
theorem lpH_yes {n : Nat} {hb : Nat → Bool} {B : Nat → Nat → Bool} {h : Nat} (e : hb h = true) : lpH n hb B (h + 1) = lpH n hb B h ++ [⟨h, (List.range n).filter (B h), none⟩] := by unfold lpH; rw [List.range_succ, List.filter_append]; simp [e]
theorem fil_no {p : Nat → Bool} {t : Nat} (e : p t = false) : (List.range (t + 1)).filter p = (List.range t).filter p := by rw [List.range_succ, List.filter_append]; simp [e]
theorem fil_yes {p : Nat → Bool} {t : Nat} (e : p t = true) : (List.range (t + 1)).filter p = (List.range t).filter p ++ [t] := by rw [List.range_succ, List.filter_append]; simp [e]
theorem fil_len (p : Nat → Bool) (t : Nat) : ((List.range t).filter p).length ≤ t := by have := List.length_filter_le p (List.range t); simpa using this
theorem lpH_len (n : Nat) (hb : Nat → Bool) (B : Nat → Nat → Bool) (h : Nat) : (lpH n hb B h).length ≤ h := by unfold lpH; rw [List.length_map]; exact fil_len _ _
theorem getD_some {α : Type} {l : List α} {i : Nat} {x d : α} (h : l[i]? = some x) : l.getD i d = x := by rw [List.getD_eq_getElem?_getD, h]; rfl
def lsI (m : Nat) (hs : List Nat) (bs : Nat → List Nat) (R : Nat → Option Nat) (i : Nat) (j : Option Nat) : List GL := (List.range m).map (fun t => (⟨hs.getD t 0, bs t, if t < i then R t else if t = i then j else none⟩ : GL))
theorem lsI_len (m : Nat) (hs : List Nat) (bs : Nat → List Nat) (R : Nat → Option Nat) (i : Nat) (j : Option Nat) : (lsI m hs bs R i j).length = m := by simp [lsI]
theorem lsI_at {m : Nat} {hs : List Nat} {bs : Nat → List Nat} {R : Nat → Option Nat} {i t : Nat} {j : Option Nat} (h : t < m) : (lsI m hs bs R i j)[t]? = some ⟨hs.getD t 0, bs t, if t < i then R t else if t = i then j else none⟩ := by
  unfold lsI
  rw [List.getElem?_map, List.getElem?_range h]
  rfl
theorem lsI_i {m : Nat} {hs : List Nat} {bs : Nat → List Nat} {R : Nat → Option Nat} {i : Nat} {j : Option Nat} (h : i < m) : (lsI m hs bs R i j)[i]? = some ⟨hs.getD i 0, bs i, j⟩ := by
  rw [lsI_at h, if_neg (Nat.lt_irrefl _), if_pos rfl]
theorem lsI_set {m : Nat} {hs : List Nat} {bs : Nat → List Nat} {R : Nat → Option Nat} {i : Nat} {j j2 : Option Nat} (h : i < m) : (lsI m hs bs R i j).set i ⟨hs.getD i 0, bs i, j2⟩ = lsI m hs bs R i j2 := by
  apply List.ext_getElem?
  intro t
  by_cases ht : t < m
  · rw [lsI_at ht, List.getElem?_set]
    by_cases e : i = t
    · subst e
      rw [if_pos rfl, if_pos (by rw [lsI_len]; exact h), if_neg (Nat.lt_irrefl _), if_pos rfl]
    · rw [if_neg e, lsI_at ht, if_neg (Ne.symm e), if_neg (Ne.symm e)]
  · rw [List.getElem?_eq_none (by rw [List.length_set, lsI_len]; omega), List.getElem?_eq_none (by rw [lsI_len]; omega)]
theorem lsI_next (m : Nat) (hs : List Nat) (bs : Nat → List Nat) (R : Nat → Option Nat) (i : Nat) : lsI m hs bs R i (R i) = lsI m hs bs R (i + 1) none := by
  unfold lsI
  apply List.map_congr_left
  intro t _
  congr 1
  by_cases h1 : t < i
  · rw [if_pos h1, if_pos (by omega)]
  · by_cases h2 : t = i
    · subst h2
      rw [if_neg h1, if_pos rfl, if_pos (by omega)]
    · rw [if_neg h1, if_neg h2, if_neg (by omega)]
      split <;> rfl
theorem lsI_start (n : Nat) (hb : Nat → Bool) (B : Nat → Nat → Bool) (R : Nat → Option Nat) : lpH n hb B n = lsI ((List.range n).filter hb).length ((List.range n).filter hb) (fun k => (List.range n).filter (B (((List.range n).filter hb).getD k 0))) R 0 none := by
  unfold lpH lsI
  generalize (List.range n).filter hb = hs
  apply List.ext_getElem?
  intro t
  by_cases ht : t < hs.length
  · have e := List.getElem?_eq_getElem ht
    have e2 := getD_some (d := 0) e
    rw [List.getElem?_map, List.getElem?_map, List.getElem?_range ht, e, Option.map_some, Option.map_some, if_neg (by omega)]
    simp only [e2]
    split <;> rfl
  · rw [List.getElem?_eq_none (by simp; omega), List.getElem?_eq_none (by simp; omega)]
theorem lsI_end (n : Nat) (hs : List Nat) (B : Nat → Nat → Bool) : rLps n hs B = lsI hs.length hs (fun k => (List.range n).filter (B (hs.getD k 0))) (fun t => rIns (fun k => (List.range n).filter (B (hs.getD k 0))) t (List.range hs.length) none) hs.length none := by
  unfold rLps lsI
  apply List.map_congr_left
  intro t ht
  rw [if_pos (List.mem_range.1 ht)]

set_option maxHeartbeats 8000000 in
theorem rloops_w (ga : Option Addr) (gc n : Nat) (w : World) (N : List (List Nat)) (O : List (List Bool)) (T : Nat → Nat → List Bool) (hn : n ≤ 100000) (hNl : N.length = n) (hNd : ∀ l ∈ N, l.length ≤ 1000000) (hOl : O.length = n) (hOr : ∀ l ∈ O, l.length = n)
    (hT : ∀ p h, p < n → h < n → (T p h).length = n)
    (HNo : Calls Try.prog 38 #[.slice ga n gc] w fun e w' => ∃ P, e = .returned (.slice (some ⟨P, 0, none⟩) n n) ∧ RepG w' (In w') (some ⟨P, 0, none⟩) (gUpG N) ∧ Ext w w')
    (HOv : ∀ W, Ext w W → Calls Try.prog 24 #[.slice ga n gc] W fun e w' => ∃ oa oc, e = .returned (.slice oa n oc) ∧ RepGB w' (In w') oa O ∧ Ext W w')
    (HFr : ∀ (W : World) (P p h : Nat), p < n → h < n → RepG W (In W) (some ⟨P, 0, none⟩) (gUpG N) → Calls Try.prog 39 #[.slice (some ⟨P, 0, none⟩) n n, .int .i64 (p : Int), .int .i64 (h : Int)] W fun e w' => ∃ On, e = .returned (slV On n) ∧ Row w' On 4 (bsV (T p h)) ∧ Ext W w')
    (B : Nat → Nat → Bool) (hB : B = fun h p => rInC (rTls N (oFn O) h) (oFn O) (T p h) h p) (hb : Nat → Bool) (hhb : hb = rHb N (oFn O)) :
    Calls Try.prog 25 #[.slice ga n gc] w fun e w' => ∃ w2 ads la lc, e = .returned (.slice la (rLps n ((List.range n).filter hb) B).length lc) ∧ Ext w w2 ∧ GbL w2 w' (rLps n ((List.range n).filter hb) B) ads la lc := by
  have H1 := hide HNo
  have H2 := hide HOv
  have H3 := hide HFr
  have HOl := hide hOl
  have HOr := hide hOr
  have HT := hide hT
  have HBq := hide hB
  have Hhb := hide hhb
  have HNl := hide hNl
  have HNd := hide hNd
  clear HNo HOv HFr hOl hOr hT hB hhb hNl hNd
  obtain ⟨i0, hi, hz0, hz1, hz2⟩ := k_info
  have HI := hide hi
  have Z0 := hide hz0
  have Z1 := hide hz1
  have Z2 := hide hz2
  clear hi hz0 hz1 hz2
  obtain ⟨i1, hi, hz0, hz1, hz2⟩ := k_infoM
  have HJ := hide hi
  have Y0 := hide hz0
  have Y1 := hide hz1
  have Y2 := hide hz2
  clear hi hz0 hz1 hz2
  go_enter Try.func25, Try.ntmps25
  go_wp2_with (first
    | (go_at_call 38; refine Calls.mono (unhide H1) ?_; rintro e w1 ⟨P, rfl, r1, x1⟩; have R1 := hide r1; have X1 := hide x1; clear r1 x1)
    | (go_at_call 24; refine Calls.mono (unhide H2 w1 (unhide X1)) ?_; rintro e w2 ⟨oa, oc, rfl, r2, x2⟩; have R2 := hide r2; have G2 := hide ((unhide R1).ext x2); have X2 : Hd (Ext w w2) := (unhide X1).trans x2; clear r2 x2))
  clear H1 H2 R1 X1
  have HN : Hd (∀ t, t < n → ∃ l ia ic, N[t]? = some l ∧ w2.cell? ⟨P, t, none⟩ = some (.slice ia l.length ic) ∧ RepI w2 (In w2) ia (l.map (fun (x : Nat) => (x : Int)))) := fun t ht => by
    obtain ⟨l, hl⟩ : ∃ l, N[t]? = some l := ⟨_, List.getElem?_eq_getElem (by rw [unhide HNl]; exact ht)⟩
    obtain ⟨gb, go, ia, ic, e, _, cl, rl⟩ := (unhide G2).at (j := t) (l := l.map (fun (x : Nat) => (x : Int))) (by unfold gUpG; rw [List.getElem?_map, hl]; rfl)
    injection e with e
    injection e with e1 e2
    subst e1 e2
    exact ⟨l, ia, ic, hl, by simpa using cl, rl⟩
  go_loopw [5, 6] (fun t5 t6 wr => ∃ (h : Nat) (ads : List (Option Addr × Nat)) (la : Option Addr) (lc : Nat), t5 = .slice la (lpH n hb B h).length lc ∧ t6 = .int .i64 (h : Int) ∧ h ≤ n ∧ Hd (GbL w2 wr (lpH n hb B h) ads la lc)) (fun _ t _ => n - (intOf t).toNat)
  case atStart => exact ⟨0, [], none, 0, rfl, rfl, by omega, GbL.nil w2⟩
  case round =>
    obtain ⟨h, ads, la, lc, rfl, rfl, hh, hI⟩ := hrel
    by_cases hlt : h < n
    · have hlt2 : (h : Int) < (n : Int) := by omega
      obtain ⟨ob, oo, e0, hcell⟩ := (unhide R2).cells (unhide HOl) (unhide HOr) (by omega)
      subst e0
      have HCell := hide hcell
      clear hcell
      obtain ⟨wp, hwp⟩ : ∃ wp, wp = wr := ⟨_, rfl⟩
      subst hwp
      have XP := hide (unhide hI).ext
      go_wp2_with fail
      go_loopw [7, 8] (fun t7 t8 wz => ∃ (t : Nat) (ta : Option Addr) (tc : Nat), t7 = .slice ta ((List.range t).filter (rTlC N (oFn O) h)).length tc ∧ t8 = .int .i64 (t : Int) ∧ t ≤ n ∧ Hd (TlI wp wz ((List.range t).filter (rTlC N (oFn O) h)) ta tc)) (fun _ t _ => n - (intOf t).toNat)
      case atStart => exact ⟨0, none, 0, rfl, rfl, by omega, ⟨Ext.refl _, World.ownsRow_nil _ _ _ _⟩⟩
      case round =>
        obtain ⟨t, ta, tc, rfl, rfl, ht, hT2⟩ := hrel
        by_cases hlt3 : t < n
        · have hlt4 : (t : Int) < (n : Int) := by omega
          obtain ⟨l, ia, ic, hl, cl, rl⟩ := unhide HN t hlt3
          have XZ := hide ((unhide XP).trans (unhide hT2).ext)
          have cl := (unhide XZ).cell cl
          have HH := hide (has_w l ia ic (h : Int) wr (unhide HNd l (List.mem_of_getElem? hl)) (rl.ext (unhide XZ)))
          have HG := hide (getD_some (d := []) hl)
          clear rl hl
          obtain ⟨ib, io, ic2, c1, c2⟩ := unhide HCell h t hlt hlt3
          have c1 := (unhide XZ).cell c1
          have c2 := (unhide XZ).cell c2
          cases hcn : l.contains h with
          | false =>
            have hh2 := unhide HH
            rw [gHas_contains, hcn] at hh2
            have HH2 := hide hh2
            have hfl := fil_no (p := rTlC N (oFn O) h) (t := t) (by unfold rTlC; rw [unhide HG, hcn]; rfl)
            clear hh2 hcn c1 c2 HH
            go_wp2_with (go_at_call 41; refine Calls.mono (unhide HH2) ?_; rintro e w3 ⟨rfl, rfl⟩)
            go_roundw
            case rel => exact ⟨t + 1, ta, tc, by rw [hfl], by go_num, by omega, by rw [hfl]; exact hT2⟩
            case measure => simp [intOf]; omega
          | true =>
            have hh2 := unhide HH
            rw [gHas_contains, hcn] at hh2
            have HH2 := hide hh2
            cases hov : oFn O h t with
            | false =>
              rw [hov] at c2
              have hfl := fil_no (p := rTlC N (oFn O) h) (t := t) (by unfold rTlC; rw [hov]; simp)
              clear hh2 hcn HH hov
              go_wp2_with (go_at_call 41; refine Calls.mono (unhide HH2) ?_; rintro e w3 ⟨rfl, rfl⟩)
              go_roundw
              case rel => exact ⟨t + 1, ta, tc, by rw [hfl], by go_num, by omega, by rw [hfl]; exact hT2⟩
              case measure => simp [intOf]; omega
            | true =>
              rw [hov] at c2
              have hfl := hide (fil_yes (p := rTlC N (oFn O) h) (t := t) (by unfold rTlC; rw [unhide HG, hcn, hov]; rfl))
              have hfn := fil_len (rTlC N (oFn O) h) t
              have HO := hide (fun ob => k_own_heap (unhide hT2).own (fun q hq => (Ext.alloc wr ob).block q ((unhide hT2).own.lt q hq).2))
              have HLz := hide (unhide hT2).ext.size
              have HPush := hide (fun (w3 : World) (ob : Obj) (g' cap' : Nat) => (unhide hT2).push (w3 := w3) (ob := ob) (g' := g') (cap' := cap') t)
              clear hh2 hcn HH hov
              generalize (List.range t).filter (rTlC N (oFn O) h) = L at *
              go_wp2_with (first
                | (go_at_call 41; refine Calls.mono (unhide HH2) ?_; rintro e w3 ⟨rfl, rfl⟩)
                | (at_builtin; refine kapp_list rfl (.tmp 48) (.tmp 50) 22 rfl wp.heap.size 3 i0 (.int .i64 0) 1 8 Try.underlying22 (unhide HI) (unhide Z0) (unhide Z1) (unhide Z2) rfl (by decide) ta L.length tc _ rfl (unhide HO _) ⟨_, 0, none⟩ 1 1 [.int .i64 (t : Int)] rfl (by decide) rfl (k_new _ _ rfl _ _) (k_one_int _) ?a1 ?a2 ?a3 ?_))
              try (case a1 => unfold maxLen; omega)
              try (case a2 => omega)
              try (case a3 => exact Nat.le_trans (unhide HLz) (Ext.alloc _ _).size)
              intro g' cap' w3 ho hgr hw
              have S3 := hide (unhide HPush w3 _ g' cap' hgr ho)
              clear ho hgr hw HPush
              go_wp2_with fail
              go_roundw
              case rel => exact ⟨t + 1, _, _, by rw [unhide hfl, List.length_append]; rfl, by go_num, by omega, by rw [unhide hfl]; exact S3⟩
              case measure => simp [intOf]; omega
        · obtain rfl : n = t := by omega
          have hTls : rTls N (oFn O) h = (List.range n).filter (rTlC N (oFn O) h) := by unfold rTls; rw [unhide HNl]
          have hfn := fil_len (rTlC N (oFn O) h) n
          have HTl := hide hTls
          have HTm : Hd (∀ x ∈ (List.range n).filter (rTlC N (oFn O) h), x < n) := fun x hx => List.mem_range.1 (List.mem_filter.1 hx).1
          clear hTls
          generalize (List.range n).filter (rTlC N (oFn O) h) = L at *
          cases hbh : hb h with
          | false =>
            have hL0 : L = [] := by
              rw [unhide Hhb] at hbh
              unfold rHb at hbh
              rw [unhide HTl] at hbh
              simpa using hbh
            subst hL0
            have hll := lpH_no (n := n) (B := B) hbh
            have HI2 := hide ((unhide hI).on (unhide hT2).ext)
            clear hbh
            go_wp2_with fail
            go_roundw
            case rel => exact ⟨h + 1, ads, la, lc, by rw [hll], by go_num, by omega, by rw [hll]; exact HI2⟩
            case measure => simp [intOf]; omega
          | true =>
            have hL0 : 0 < L.length := by
              rw [unhide Hhb] at hbh
              unfold rHb at hbh
              rw [unhide HTl] at hbh
              cases L with
              | nil => simp at hbh
              | cons _ _ => simp
            have hL1 : ((L.length : Int) == 0) = false := by rw [beq_eq_false_iff_ne]; omega
            have hL2 : ¬ (L.length : Int) = 0 := by omega
            have HBH := hide hbh
            clear hbh
            obtain ⟨w3, hw3⟩ : ∃ w3, w3 = wr := ⟨_, rfl⟩
            subst hw3
            go_wp2_with fail
            go_loopw [10] (fun t10 wz => ∃ (p : Nat) (ba : Option Addr) (bc : Nat), t10 = .int .i64 (p : Int) ∧ p ≤ n ∧ Hd (BdI w3 wz h ((List.range p).filter (B h)) ba bc)) (fun t _ => n - (intOf t).toNat)
            case atStart => exact ⟨0, none, 0, rfl, by omega, ⟨Ext.alloc _ _, Row.new _ (bxC h [] none 0) _, World.ownsRow_nil _ _ _ _⟩⟩
            case round =>
              obtain ⟨p, ba, bc, rfl, hp, hBd⟩ := hrel
              by_cases hlp : p < n
              · have hlp2 : (p : Int) < (n : Int) := by omega
                have XW := hide (((unhide XP).trans (unhide hT2).ext).trans (unhide hBd).ext)
                have HF := hide (unhide H3 wr P p h hlp hlt ((unhide G2).ext (unhide XW)))
                go_wp2_with (go_at_call 39; refine Calls.mono (unhide HF) ?_; rintro e w4 ⟨On, rfl, r4, x4⟩; have R4 := hide r4; have BD := hide ((unhide hBd).on x4); have X4 := hide ((unhide XW).trans x4); have XT := hide (((unhide hBd).ext).trans x4); clear r4 x4)
                clear HF XW hBd
                go_loopw [11, 13] (fun t11 t13 wz => ∃ (b : Bool) (k : Nat), t11 = .bool b ∧ t13 = .int .i64 (k : Int) ∧ k ≤ L.length ∧ Hd (b = ((p == h) || (L.take k).any (fun t => (T p h).getD t false))) ∧ Hd (wz = w4)) (fun _ t _ => L.length - (intOf t).toNat)
                case atStart =>
                  refine ⟨_, 0, rfl, rfl, by omega, ?_, rfl⟩
                  show _ = _
                  rw [List.take_zero, List.any_nil, Bool.or_false]
                  by_cases e : p = h
                  · subst e; simp
                  · have e2 : ¬ (p : Int) = (h : Int) := by omega
                    have e3 : (p == h) = false := by rw [beq_eq_false_iff_ne]; exact e
                    rw [e3]
                    first | (rw [beq_eq_false_iff_ne]; exact e2) | (rw [decide_eq_false_iff_not]; exact e2) | simp [e2]
                case round =>
                  obtain ⟨b, k, rfl, rfl, hk, hbq, hw⟩ := hrel
                  rw [unhide hw]
                  by_cases hlk : k < L.length
                  · have hlk2 : (k : Int) < (L.length : Int) := by omega
                    obtain ⟨tt, htt⟩ : ∃ tt, L[k]? = some tt := ⟨_, List.getElem?_eq_getElem hlk⟩
                    have htn := unhide HTm tt (List.mem_of_getElem? htt)
                    have htn2 : (tt : Int) < (n : Int) := by omega
                    obtain ⟨lb, lo, e1, _, cy⟩ := (own_repI (unhide hT2).own).at (j := k) (x := (tt : Int)) (by rw [List.getElem?_map, htt]; rfl)
                    subst e1
                    have cy := (unhide XT).cell cy
                    obtain ⟨v, hv⟩ : ∃ v, (T p h)[tt]? = some v := ⟨_, List.getElem?_eq_getElem (by rw [unhide HT p h hlp hlt]; exact htn)⟩
                    have cv := (unhide R4).cell tt (v := .bool v) (bs_at hv)
                    have HS : Hd (((p == h) || (L.take (k + 1)).any (fun t => (T p h).getD t false)) = (b || v)) := by
                      show _ = _
                      rw [List.take_add_one, htt, List.any_append, ← Bool.or_assoc, ← unhide hbq]
                      simp only [Option.toList_some, List.any_cons, List.any_nil, Bool.or_false, getD_some hv]
                    clear hbq htt hv
                    cases b with
                    | true =>
                      clear cy cv
                      go_wp2_with fail
                      go_roundw
                      case rel => exact ⟨true, k + 1, by first | rfl | simp, by go_num, by omega, by show true = _; rw [unhide HS]; rfl, by first | exact rfl | (unfold Hd; trivial)⟩
                      case measure => simp [intOf]; omega
                    | false =>
                      go_wp2_with fail
                      go_roundw
                      case rel => exact ⟨v, k + 1, by first | rfl | simp, by go_num, by omega, by show v = _; rw [unhide HS]; rfl, by first | exact rfl | (unfold Hd; trivial)⟩
                      case measure => simp [intOf]; omega
                  · obtain rfl : L.length = k := by omega
                    have HBp : Hd (B h p = (b && oFn O 0 p)) := by
                      show _ = _
                      rw [unhide HBq]
                      show rInC _ _ _ _ _ = _
                      unfold rInC
                      rw [unhide HTl, unhide hbq, List.take_length]
                    obtain ⟨ib, io, ic2, c1, c2⟩ := unhide HCell 0 p (by omega) hlp
                    have c1 := (unhide X4).cell c1
                    have c2 := (unhide X4).cell c2
                    rw [Nat.add_zero] at c1
                    have hfn2 := fil_len (B h) p
                    clear hbq
                    cases b with
                    | false =>
                      have hfl := hide (fil_no (p := B h) (t := p) (by rw [unhide HBp]; rfl))
                      clear c1 c2
                      go_wp2_with fail
                      go_roundw
                      case rel => exact ⟨p + 1, ba, bc, by go_num, by omega, by rw [unhide hfl]; exact BD⟩
                      case measure => simp [intOf]; omega
                    | true =>
                      cases hov : oFn O 0 p with
                      | false =>
                        have hfl := hide (fil_no (p := B h) (t := p) (by rw [unhide HBp, hov]; rfl))
                        rw [hov] at c2
                        clear hov
                        go_wp2_with fail
                        go_roundw
                        case rel => exact ⟨p + 1, ba, bc, by go_num, by omega, by rw [unhide hfl]; exact BD⟩
                        case measure => simp [intOf]; omega
                      | true =>
                        have hfl := hide (fil_yes (p := B h) (t := p) (by rw [unhide HBp, hov]; rfl))
                        rw [hov] at c2
                        clear hov
                        generalize (List.range p).filter (B h) = M at *
                        have k1 := (unhide BD).row.cell 1 (v := .slice ba M.length bc) rfl
                        have HO := hide (fun ob => k_own_heap (unhide BD).own (fun q hq => (Ext.alloc w4 ob).block q ((unhide BD).own.lt q hq).2))
                        have HLz := hide (k_lt (unhide BD).row)
                        have HPush := hide (fun (w' : World) (ob : Obj) (g' cap' : Nat) => (unhide BD).push (w' := w') (ob := ob) (g' := g') (cap' := cap') p)
                        go_wp2_with (at_builtin; refine kapp_list rfl (.tmp 96) (.tmp 98) 22 rfl (w3.heap.size + 1) 3 i0 (.int .i64 0) 1 8 Try.underlying22 (unhide HI) (unhide Z0) (unhide Z1) (unhide Z2) rfl (by decide) ba M.length bc _ rfl (unhide HO _) ⟨_, 0, none⟩ 1 1 [.int .i64 (p : Int)] rfl (by decide) rfl (k_new _ _ rfl _ _) (k_one_int _) ?b1 ?b2 ?b3 ?_)
                        try (case b1 => unfold maxLen; omega)
                        try (case b2 => omega)
                        try (case b3 => have h1 := unhide HLz; have h2 := (Ext.alloc w4 (.cells #[.int .i64 (p : Int)] 3)).size; exact Nat.le_trans h1 h2)
                        intro g' cap' w5 ho hgr hw
                        obtain ⟨q1, q2⟩ := unhide HPush w5 _ g' cap' hgr ho
                        have S5 := hide q2
                        have d1 := q1.cell 1 (v := .slice ba M.length bc) rfl
                        have d3 := k_rowF q1 1
                        clear ho hgr hw HPush q1 q2 k1 HO
                        go_wp2_with fail
                        go_roundw
                        case rel => exact ⟨p + 1, _, _, by go_num, by omega, by rw [unhide hfl]; exact S5⟩
                        case measure => simp [intOf]; omega
              · obtain rfl : n = p := by omega
                have hll := hide (lpH_yes (n := n) (B := B) (unhide HBH))
                have hln := lpH_len n hb B h
                generalize (List.range n).filter (B h) = M at *
                have k0 := (unhide hBd).row.cell 0 (v := .int .i64 (h : Int)) rfl
                have k1 := (unhide hBd).row.cell 1 (v := .slice ba M.length bc) rfl
                have k2 := (unhide hBd).row.cell 2 (v := .int .i64 (-1)) rfl
                have XW := hide ((unhide hT2).ext.trans (unhide hBd).ext)
                have HO := hide (fun ob => k_own_heap (unhide hI).oL (fun q hq => ((unhide XW).trans (Ext.alloc wr ob)).block q ((unhide hI).oL.lt q hq).2))
                have HLz := hide ((unhide hI).ext.size)
                have HLy := hide ((unhide XW).size)
                have HRp : Hd (RepI wr (fun q => wp.heap.size ≤ q ∧ q < wr.heap.size) ba (M.map (fun (x : Nat) => (x : Int)))) := (own_repB (unhide hBd).own).to (fun q hq => ⟨⟨by have := (unhide hT2).ext.size; omega, hq.2⟩, rfl⟩)
                have HAdd := hide (fun (w' : World) (ob : Obj) (g' cap' : Nat) => (unhide hI).add (w3 := w') (ob := ob) (g' := g') (cap' := cap') (unhide XW) ⟨h, M, none⟩ (ba, bc) (unhide HRp))
                generalize lpH n hb B h = LS at *
                go_wp2_with (at_builtin; refine kapp_list rfl (.tmp 101) (.tmp 103) 40 rfl w2.heap.size 44 i1 (.agg #[.int .i64 0, .slice none 0 0, .int .i64 0]) 3 40 Try.underlying40 (unhide HJ) (unhide Y0) (unhide Y1) (unhide Y2) rfl (by decide) la LS.length lc _ rfl (unhide HO _) ⟨wr.heap.size, 0, none⟩ 1 1 (glC ⟨h, M, none⟩ (ba, bc)) rfl (by decide) rfl (k_new _ _ rfl _ _) (one_gm _ _) ?c1 ?c2 ?c3 ?_)
                try (case c1 => unfold maxLen; omega)
                try (case c2 => omega)
                try (case c3 => have h1 := unhide HLz; have h2 := unhide HLy; exact Nat.le_trans h1 (Nat.le_trans h2 (Ext.alloc _ _).size))
                intro g' cap' w5 ho hgr hw
                have S5 := hide (unhide HAdd w5 _ g' cap' hgr ho (hw.imp id (fun e => by simpa using e)))
                clear ho hgr hw HAdd
                go_wp2_with fail
                go_roundw
                case rel => exact ⟨h + 1, _, _, _, by rw [unhide hll, List.length_append]; rfl, by go_num, by omega, by rw [unhide hll]; exact S5⟩
                case measure => simp [intOf]; omega
    · obtain rfl : n = h := by omega
      obtain ⟨hs, hhs⟩ : ∃ hs, hs = (List.range n).filter hb := ⟨_, rfl⟩
      obtain ⟨bs, hbs⟩ : ∃ bs : Nat → List Nat, bs = fun k => (List.range n).filter (B (hs.getD k 0)) := ⟨_, rfl⟩
      obtain ⟨m, hm⟩ : ∃ m, m = hs.length := ⟨_, rfl⟩
      obtain ⟨R, hR⟩ : ∃ R : Nat → Option Nat, R = fun t => rIns bs t (List.range m) none := ⟨_, rfl⟩
      have e0 : lpH n hb B n = lsI m hs bs R 0 none := by rw [hm, hbs, hhs]; exact lsI_start n hb B R
      have E9 : Hd (rLps n ((List.range n).filter hb) B = lsI m hs bs R m none) := by show _ = _; rw [hR, hm, hbs, ← hhs]; exact lsI_end n hs B
      have HBl : Hd (∀ k, (bs k).length ≤ 1000000) := fun k => by rw [hbs]; have := fil_len (B (hs.getD k 0)) n; show ((List.range n).filter _).length ≤ _; omega
      have hmn : m ≤ n := by rw [hm, hhs]; exact fil_len hb n
      have HR0 : Hd (∀ i, rIns bs i ((List.range m).drop 0) none = R i) := fun i => by rw [hR, List.drop_zero]
      rw [e0] at hI
      rw [e0, lsI_len]
      clear hhs hbs hm hR e0
      go_wp2_with fail
      go_loopw [14] (fun t wz => ∃ (i : Nat), t = .int .i64 (i : Int) ∧ i ≤ m ∧ Hd (GbL w2 wz (lsI m hs bs R i none) ads la lc)) (fun t _ => m - (intOf t).toNat)
      case atStart => exact ⟨0, rfl, by omega, hI⟩
      case round =>
        clear hI
        obtain ⟨i, rfl, hi, hG⟩ := hrel
        by_cases hli : i < m
        · have hli2 : (i : Int) < (m : Int) := by omega
          obtain ⟨g, ai, e1, hmc, _⟩ := (unhide hG).at (lsI_i hli)
          subst e1
          rw [lsI_len] at hmc
          have HE0 := hide (unhide HR0 i)
          go_wp2_with fail
          go_loopw [15] (fun t wz => ∃ (k : Nat) (j : Option Nat), t = .int .i64 (k : Int) ∧ k ≤ m ∧ (∀ c, j = some c → c < m) ∧ Hd (GbL w2 wz (lsI m hs bs R i j) ads (some ⟨g, 0, none⟩) lc) ∧ Hd (rIns bs i ((List.range m).drop k) j = R i)) (fun t _ => m - (intOf t).toNat)
          case atStart => exact ⟨0, none, rfl, by omega, fun c hc => by (cases hc), hG, HE0⟩
          case round =>
            clear hG HE0
            obtain ⟨k, j, rfl, hk, hj, hG, hE⟩ := hrel
            have HJ2 := hide hj
            clear hj
            by_cases hlk : k < m
            · have hlk2 : (k : Int) < (m : Int) := by omega
              have hE1 := unhide hE
              rw [range_drop hlk, rIns] at hE1
              have HE1 := hide hE1
              clear hE hE1
              by_cases hki : k = i
              · have hki2 : ((k : Int) == (i : Int)) = true := by rw [hki]; simp
                have hki3 : (k : Int) = (i : Int) := by omega
                have HE2 : Hd (rIns bs i ((List.range m).drop (k + 1)) j = R i) := by
                  have := unhide HE1
                  rw [show rInsP bs i k j = false by unfold rInsP; rw [hki]; simp] at this
                  exact this
                clear HE1
                clear hki
                go_wp2_with fail
                have hne : Nonempty (RGw wr) := ⟨⟨wr, Ext.refl _⟩⟩
                refine wp_region_rx (W := wr) (by kernel_rfl) (by kernel_rfl) (Ext.refl _) ?_
                try simp only [List.append_eq, List.cons_append, List.nil_append]
                repeat (go_big_quiet_step (fail))
                refine wpQuiet_nil ?_
                rintro w8 ⟨⟨_, hx⟩, rfl⟩
                have HG9 := hide ((unhide hG).on hx)
                clear hx hne
                go_wp2_with fail
                go_roundw
                case rel => exact ⟨k + 1, j, by go_num, by omega, unhide HJ2, HG9, HE2⟩
                case measure => simp [intOf]; omega
              · have hki2 : ((k : Int) == (i : Int)) = false := by rw [beq_eq_false_iff_ne]; omega
                have hki4 : (k != i) = true := by rw [bne_iff_ne]; exact hki
                have HK4 := hide hki4
                obtain ⟨g3, ai, e3, _, _, _, _, ci, _, _, ri⟩ := (unhide hG).at (lsI_i hli)
                injection e3 with e3
                injection e3 with e3 _
                subst e3
                obtain ⟨g3, ak, e3, _, _, _, _, ck, _, _, rk⟩ := (unhide hG).at (lsI_at hlk)
                injection e3 with e3
                injection e3 with e3 _
                subst e3
                have k1 : ∀ v : RGw wr, v.w.cell? ⟨g, i * 3 + 1, none⟩ = some (.slice ai.1 (bs i).length ai.2) := fun v => v.h.cell ci
                have k2 : ∀ v : RGw wr, v.w.cell? ⟨g, k * 3 + 1, none⟩ = some (.slice ak.1 (bs k).length ak.2) := fun v => v.h.cell ck
                have HAl : Hd (∀ v : RGw wr, Calls Try.prog 42 #[.slice ai.1 (bs i).length ai.2, .slice ak.1 (bs k).length ak.2] v.w fun e w' => e = .returned (.bool ((bs i).all (fun x => (bs k).contains x))) ∧ Ext v.w w') := fun v => by
                  refine Calls.mono (all_w (bs i) (bs k) ai.1 ak.1 ai.2 ak.2 v.w (unhide HBl i) (unhide HBl k) (ri.ext v.h) (rk.ext v.h)) ?_
                  rintro e w' ⟨rfl, rfl⟩
                  exact ⟨rfl, Ext.refl _⟩
                clear ci ck ri rk hki4
                cases hal : (bs i).all (fun x => (bs k).contains x) with
                | false =>
                  rw [hal] at HAl
                  have HE2 : Hd (rIns bs i ((List.range m).drop (k + 1)) j = R i) := by
                    have := unhide HE1
                    rw [show rInsP bs i k j = false by unfold rInsP; rw [hal]; simp] at this
                    exact this
                  clear HE1
                  clear hal
                  go_wp2_with fail
                  have hne : Nonempty (RGw wr) := ⟨⟨wr, Ext.refl _⟩⟩
                  refine wp_region_rx (W := wr) (by kernel_rfl) (by kernel_rfl) (Ext.refl _) ?_
                  try simp only [List.append_eq, List.cons_append, List.nil_append]
                  repeat (go_big_quiet_step ((go_at_call 42; exact Calls.rx_of _ _ (unhide HAl _))))
                  refine wpQuiet_nil ?_
                  rintro w8 ⟨⟨_, hx⟩, rfl⟩
                  have HG9 := hide ((unhide hG).on hx)
                  clear hx hne k1 k2
                  go_wp2_with fail
                  go_roundw
                  case rel => exact ⟨k + 1, j, by go_num, by omega, unhide HJ2, HG9, HE2⟩
                  case measure => simp [intOf]; omega
                | true =>
                  have HA4 := hide hal
                  rw [hal] at HAl
                  clear hal
                  go_wp2_with fail
                  have hne : Nonempty (RGw wr) := ⟨⟨wr, Ext.refl _⟩⟩
                  refine wp_region_rx (W := wr) (by kernel_rfl) (by kernel_rfl) (Ext.refl _) ?_
                  try simp only [List.append_eq, List.cons_append, List.nil_append]
                  repeat (go_big_quiet_step ((go_at_call 42; exact Calls.rx_of _ _ (unhide HAl _))))
                  refine wpQuiet_nil ?_
                  rintro w8 ⟨⟨_, hx⟩, rfl⟩
                  have HG8 := hide ((unhide hG).on hx)
                  clear hx hne k1 k2 HAl hG
                  obtain ⟨g3, ai, e3, _, _, _, _, _, c2, _, _⟩ := (unhide HG8).at (lsI_i hli)
                  injection e3 with e3
                  injection e3 with e3 _
                  subst e3
                  cases j with
                  | none =>
                    replace c2 : w8.cell? ⟨g, i * 3 + 2, none⟩ = some (.int .i64 (-1)) := c2
                    have HE2 : Hd (rIns bs i ((List.range m).drop (k + 1)) (some k) = R i) := by
                      have := unhide HE1
                      rw [show rInsP bs i k none = true by unfold rInsP; rw [unhide HK4, unhide HA4]; rfl] at this
                      exact this
                    clear HE1
                    go_wp2_with fail
                    have hne : Nonempty (RGw w8) := ⟨⟨w8, Ext.refl _⟩⟩
                    refine wp_region_rx (W := w8) (by kernel_rfl) (by kernel_rfl) (Ext.refl _) ?_
                    try simp only [List.append_eq, List.cons_append, List.nil_append]
                    repeat (go_big_quiet_step (fail))
                    refine wpQuiet_nil ?_
                    rintro w9 ⟨⟨_, hx⟩, rfl⟩
                    have HG9 := hide ((unhide HG8).on hx)
                    clear hx hne c2
                    obtain ⟨g3, a3, e3, _, _, _, _, _, d2, d3, _⟩ := (unhide HG9).at (lsI_i hli)
                    injection e3 with e3
                    injection e3 with e3 _
                    subst e3
                    have S9 := (unhide HG9).setI (lsI_i hli) (some k)
                    rw [(rfl : oI (some k) = (k : Int))] at S9
                    rw [lsI_set hli] at S9
                    have HS9 := hide S9
                    clear S9
                    go_wp2_with fail
                    go_roundw
                    case rel => exact ⟨k + 1, some k, by go_num, by omega, fun c hc => by (injection hc with hc; omega), HS9, HE2⟩
                    case measure => simp [intOf]; omega
                  | some jj =>
                    replace c2 : w8.cell? ⟨g, i * 3 + 2, none⟩ = some (.int .i64 (jj : Int)) := c2
                    have hjm := unhide HJ2 jj rfl
                    have hjm2 : (jj : Int) < (m : Int) := by omega
                    have hjm3 : ¬ (jj : Int) < 0 := by omega
                    have hjm4 : decide ((jj : Int) < 0) = false := by rw [decide_eq_false_iff_not]; exact hjm3
                    have hjm5 : (0 : Int) ≤ (jj : Int) := by omega
                    obtain ⟨g3, ak, e3, _, _, _, _, ck, _, _, _⟩ := (unhide HG8).at (lsI_at hlk)
                    injection e3 with e3
                    injection e3 with e3 _
                    subst e3
                    obtain ⟨g3, aj, e3, _, _, _, _, cj, _, _, _⟩ := (unhide HG8).at (lsI_at hjm)
                    injection e3 with e3
                    injection e3 with e3 _
                    subst e3
                    have k1 : ∀ v : RGw w8, v.w.cell? ⟨g, k * 3 + 1, none⟩ = some (.slice ak.1 (bs k).length ak.2) := fun v => v.h.cell ck
                    have k2 : ∀ v : RGw w8, v.w.cell? ⟨g, jj * 3 + 1, none⟩ = some (.slice aj.1 (bs jj).length aj.2) := fun v => v.h.cell cj
                    clear ck cj
                    by_cases hll : (bs k).length < (bs jj).length
                    · have hll2 : ((bs k).length : Int) < ((bs jj).length : Int) := by omega
                      have HE2 : Hd (rIns bs i ((List.range m).drop (k + 1)) (some k) = R i) := by
                        have := unhide HE1
                        rw [show rInsP bs i k (some jj) = true by unfold rInsP; rw [unhide HK4, unhide HA4]; simp [hll]] at this
                        exact this
                      clear HE1
                      clear hll
                      go_wp2_with fail
                      have hne : Nonempty (RGw w8) := ⟨⟨w8, Ext.refl _⟩⟩
                      refine wp_region_rx (W := w8) (by kernel_rfl) (by kernel_rfl) (Ext.refl _) ?_
                      try simp only [List.append_eq, List.cons_append, List.nil_append]
                      repeat (go_big_quiet_step (fail))
                      refine wpQuiet_nil ?_
                      rintro w9 ⟨⟨_, hx⟩, rfl⟩
                      have HG9 := hide ((unhide HG8).on hx)
                      clear hx hne c2 k1 k2
                      obtain ⟨g3, a3, e3, _, _, _, _, _, d2, d3, _⟩ := (unhide HG9).at (lsI_i hli)
                      injection e3 with e3
                      injection e3 with e3 _
                      subst e3
                      have S9 := (unhide HG9).setI (lsI_i hli) (some k)
                      rw [(rfl : oI (some k) = (k : Int))] at S9
                      rw [lsI_set hli] at S9
                      have HS9 := hide S9
                      clear S9
                      go_wp2_with fail
                      go_roundw
                      case rel => exact ⟨k + 1, some k, by go_num, by omega, fun c hc => by (injection hc with hc; omega), HS9, HE2⟩
                      case measure => simp [intOf]; omega
                    · have hll2 : ¬ ((bs k).length : Int) < ((bs jj).length : Int) := by omega
                      have HE2 : Hd (rIns bs i ((List.range m).drop (k + 1)) (some jj) = R i) := by
                        have := unhide HE1
                        rw [show rInsP bs i k (some jj) = false by unfold rInsP; rw [unhide HK4, unhide HA4]; simp; omega] at this
                        exact this
                      clear HE1
                      clear hll
                      go_wp2_with fail
                      have hne : Nonempty (RGw w8) := ⟨⟨w8, Ext.refl _⟩⟩
                      refine wp_region_rx (W := w8) (by kernel_rfl) (by kernel_rfl) (Ext.refl _) ?_
                      try simp only [List.append_eq, List.cons_append, List.nil_append]
                      repeat (go_big_quiet_step (fail))
                      refine wpQuiet_nil ?_
                      rintro w9 ⟨⟨_, hx⟩, rfl⟩
                      have HG9 := hide ((unhide HG8).on hx)
                      clear hx hne c2 k1 k2
                      go_wp2_with fail
                      go_roundw
                      case rel => exact ⟨k + 1, some jj, by go_num, by omega, unhide HJ2, HG9, HE2⟩
                      case measure => simp [intOf]; omega
            · obtain rfl : m = k := by omega
              have hE1 := unhide hE
              rw [List.drop_of_length_le (by simp), rIns] at hE1
              subst hE1
              have HG2 := hG
              clear hG hE
              have HG3 : Hd (GbL w2 wr (lsI m hs bs R (i + 1) none) ads (some ⟨g, 0, none⟩) lc) := by
                have := unhide HG2
                rw [lsI_next] at this
                exact this
              go_wp2_with fail
              go_roundw
              case rel => exact ⟨i + 1, by go_num, by omega, HG3⟩
              case measure => simp [intOf]; omega
        · obtain rfl : m = i := by omega
          go_wp2_with fail
          go_ret
          exact ⟨w2, ads, la, lc, by rw [unhide E9, lsI_len]; rfl, unhide X2, by rw [unhide E9]; exact unhide hG⟩
end Go.Proofs.Ytpfjafjpijmckaa
