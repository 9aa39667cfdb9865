/- The document's Cyclic. -/
import Derived.Test.YtpfjafjpijmckaaGrCb
import Derived.Test.YtpfjafjpijmckaaGrGb
import Derived.Test.YtpfjafjpijmckaaGrRh
set_option linter.unusedSimpArgs false
set_option linter.unusedVariables false
set_option maxRecDepth 10000
namespace Go.Proofs.Ytpfjafjpijmckaa
open Go.RowKit

theorem RepB.ext {w w' : World} {l : List Bool} {a : Option Addr} (hr : RepB w (In w) a l) (h : Ext w w') : RepB w' (In w') a l := by
  rcases hr with hr | ⟨b, o, rfl, hf, hc⟩
  · exact Or.inl hr
  · exact Or.inr ⟨b, o, rfl, Nat.lt_of_lt_of_le hf h.size, fun j x hx => h.cell (hc j x hx)⟩
theorem RepB.at {w : World} {F : Nat → Prop} {l : List Bool} {a : Option Addr} (hr : RepB w F a l) {j : Nat} {x : Bool} (h : l[j]? = some x) : ∃ b o, a = some ⟨b, o, none⟩ ∧ F b ∧ w.cell? ⟨b, o + j, none⟩ = some (.bool x) := by
  rcases hr with rfl | ⟨b, o, rfl, hf, hc⟩
  · simp at h
  · exact ⟨b, o, rfl, hf, hc j x h⟩

theorem own_repB {w : World} {base n : Nat} {a : Option Addr} {m c : Nat} {l : List Nat} (h : w.ownsRow base 3 1 (.slice a m c) n (ns l)) : RepI w (fun q => base ≤ q ∧ q < w.heap.size) a (l.map (fun (x : Nat) => (x : Int))) := by
  rcases own_repI h with e | ⟨b, o, rfl, _, hc⟩
  · exact Or.inl e
  · exact Or.inr ⟨b, o, rfl, h.lt b rfl, hc⟩
/-- A list under way. -/
structure RlI (wp wr : World) (pass : List Bool) (l : List Nat) (k : Nat) (acc : List Nat) (la : Option Addr) (lc : Nat) : Prop where
  ext : Ext wp wr
  own : wr.ownsRow wp.heap.size 3 1 (.slice la acc.length lc) acc.length (ns acc)
  eq : acc ++ rBareL pass (l.drop k) = rBareL pass l
theorem RlI.len {wp wr : World} {pass : List Bool} {l : List Nat} {k : Nat} {acc : List Nat} {la : Option Addr} {lc : Nat} (h : RlI wp wr pass l k acc la lc) : acc.length ≤ l.length := by
  have h1 : (acc ++ rBareL pass (l.drop k)).length = (rBareL pass l).length := by rw [h.eq]
  have h2 : (rBareL pass l).length ≤ l.length := List.length_filter_le _ _
  rw [List.length_append] at h1
  omega
theorem RlI.push {wp wr w3 : World} {pass : List Bool} {l : List Nat} {k : Nat} {acc : List Nat} {la : Option Addr} {lc : Nat} {ob : Obj} {g' cap' : Nat} (h : RlI wp wr pass l k acc la lc) (q : Nat) (hq : l[k]? = some q) (hp : pass.getD q false = false)
    (g1 : (wr.alloc ob).grownBy w3 (Value.slice la acc.length lc).ownBlock) (ho : w3.ownsRow wp.heap.size 3 1 (.slice (some ⟨g', 0, none⟩) (acc.length + 1) cap') (acc.length + 1) (ns acc ++ [.int .i64 (q : Int)])) :
    RlI wp w3 pass l (k + 1) (acc ++ [q]) (some ⟨g', 0, none⟩) cap' := by
  have hX := h.ext.trans (Ext.alloc wr ob)
  refine ⟨Below.grown hX g1 hX.size (fun j hj => (h.own.lt j hj).1), by simpa [ns] using ho, ?_⟩
  have hk := (List.getElem?_eq_some_iff.1 hq).1
  have := h.eq
  rw [List.drop_eq_getElem_cons hk] at this
  rw [List.getElem?_eq_getElem hk] at hq
  injection hq with hq
  rw [hq] at this
  unfold rBareL at this ⊢
  rw [List.filter_cons_of_pos (by rw [hp]; rfl)] at this
  rw [List.append_assoc]
  exact this
theorem RlI.skip {wp wr : World} {pass : List Bool} {l : List Nat} {k : Nat} {acc : List Nat} {la : Option Addr} {lc : Nat} (h : RlI wp wr pass l k acc la lc) (q : Nat) (hq : l[k]? = some q) (hp : pass.getD q false = true) : RlI wp wr pass l (k + 1) acc la lc := by
  refine ⟨h.ext, h.own, ?_⟩
  have hk := (List.getElem?_eq_some_iff.1 hq).1
  have := h.eq
  rw [List.drop_eq_getElem_cons hk] at this
  rw [List.getElem?_eq_getElem hk] at hq
  injection hq with hq
  rw [hq] at this
  unfold rBareL at this ⊢
  rw [List.filter_cons_of_neg (by rw [hp]; decide)] at this
  exact this

/-- Does one of a list come back? -/
def rCirL (bare : List (List Nat)) (K p : Nat) : List Nat → Option Bool
  | [] => some false
  | q :: r => match rFrom bare (q : Int) (-1) K with
    | none => none
    | some F => match F[p]? with
      | none => none
      | some true => some true
      | some false => rCirL bare K p r
def rCirF (bare : List (List Nat)) (K : Nat) : Nat → List (List Nat) → Option Bool
  | _, [] => some false
  | p, l :: r => match rCirL bare K p l with
    | none => none
    | some true => some true
    | some false => rCirF bare K (p + 1) r
theorem rCirL_ends (bare : List (List Nat)) (hp : Pts bare) (K p : Nat) (hK : bare.length + 2 ≤ K) (hpn : p < bare.length) : ∀ (l : List Nat), (∀ q ∈ l, q < bare.length) → ∃ b, rCirL bare K p l = some b ∧ (b = true ↔ ∃ q ∈ l, Way bare (-1) q p)
  | [], h => ⟨false, rfl, by simp⟩
  | q :: r, h => by
    obtain ⟨F, hF, hFl⟩ := rFrom_ends bare (q : Int) (-1) K hp hK
    have hon := rFrom_on bare (q : Int) (-1) K F hF p
    have hqn := h q (List.mem_cons_self ..)
    have hw : F[p]? = some true ↔ Way bare (-1) q p := by
      rw [hon, Int.toNat_natCast]
      exact ⟨fun h => h.2.2.2, fun h => ⟨by omega, by omega, by omega, h⟩⟩
    rw [rCirL, hF]
    simp only
    have e : F[p]? = some (F[p]'(by omega)) := List.getElem?_eq_getElem _
    cases hb : F[p]'(by omega) with
    | true =>
      rw [hb] at e
      rw [e]
      exact ⟨true, rfl, fun _ => ⟨q, List.mem_cons_self .., hw.1 e⟩, fun _ => rfl⟩
    | false =>
      rw [hb] at e
      rw [e]
      obtain ⟨b, h1, h2⟩ := rCirL_ends bare hp K p hK hpn r (fun x hx => h x (List.mem_cons_of_mem _ hx))
      refine ⟨b, h1, h2.trans ⟨fun ⟨x, hx, hy⟩ => ⟨x, List.mem_cons_of_mem _ hx, hy⟩, fun ⟨x, hx, hy⟩ => ?_⟩⟩
      rcases List.mem_cons.1 hx with f | f
      · rw [f] at hy
        rw [hw.2 hy] at e
        injection e with e
        cases e
      · exact ⟨x, f, hy⟩
theorem rCirF_ends (bare : List (List Nat)) (hp : Pts bare) (K : Nat) (hK : bare.length + 2 ≤ K) : ∀ (ls : List (List Nat)) (p : Nat), (∀ i, (bare)[p + i]? = ls[i]?) → ∃ b, rCirF bare K p ls = some b ∧ (b = true ↔ ∃ i l, ls[i]? = some l ∧ ∃ q ∈ l, Way bare (-1) q (p + i))
  | [], p, h => ⟨false, rfl, by simp⟩
  | l :: r, p, h => by
    have h0 := h 0
    rw [Nat.add_zero, List.getElem?_cons_zero] at h0
    have hpn := (List.getElem?_eq_some_iff.1 h0).1
    obtain ⟨b, h1, h2⟩ := rCirL_ends bare hp K p hK hpn l (hp l (List.mem_of_getElem? h0))
    rw [rCirF, h1]
    cases b with
    | true =>
      obtain ⟨q, hq, hw⟩ := h2.1 rfl
      exact ⟨true, rfl, fun _ => ⟨0, l, rfl, q, hq, hw⟩, fun _ => rfl⟩
    | false =>
      obtain ⟨b, e1, e2⟩ := rCirF_ends bare hp K hK r (p + 1) (fun i => by rw [Nat.add_assoc, Nat.add_comm 1 i, h (i + 1), List.getElem?_cons_succ])
      refine ⟨b, e1, e2.trans ⟨fun ⟨i, l2, hi, q, hq, hw⟩ => ⟨i + 1, l2, by simpa using hi, q, hq, by rw [Nat.add_assoc, Nat.add_comm 1 i] at hw; exact hw⟩, fun ⟨i, l2, hi, q, hq, hw⟩ => ?_⟩⟩
      cases i with
      | zero =>
        simp at hi
        subst hi
        have := h2.2 ⟨q, hq, hw⟩
        cases this
      | succ i => exact ⟨i, l2, by simpa using hi, q, hq, by rw [Nat.add_assoc, Nat.add_comm 1 i]; exact hw⟩

theorem pass_ge {pass : List Bool} {q : Nat} (h : pass.length ≤ q) : pass.getD q false = false := by rw [List.getD_eq_getElem?_getD, List.getElem?_eq_none h]; rfl
theorem pass_lt {pass : List Bool} {q : Nat} {b : Bool} (h : pass[q]? = some b) : pass.getD q false = b := by rw [List.getD_eq_getElem?_getD, h]; rfl

/-- Between two lists. -/
structure BaI (w2 wr : World) (B : List (List Nat)) (p : Nat) (ads : List (Option Addr × Nat)) (ba : Option Addr) (bc : Nat) : Prop where
  S : GbS w2 wr (gUpG (B.take p)) ads ba bc
theorem gUpG_len (ls : List (List Nat)) : (gUpG ls).length = ls.length := by simp [gUpG]
theorem gUpG_take {ls : List (List Nat)} {p : Nat} {l : List Nat} (h : ls[p]? = some l) : gUpG (ls.take (p + 1)) = gUpG (ls.take p) ++ [l.map (fun (x : Nat) => (x : Int))] := by
  unfold gUpG
  rw [List.take_add_one, h]
  simp
theorem rBare_bd (pass inn : List Bool) (D : Nat) (ls : List (List Nat)) (h : ∀ l ∈ ls, l.length ≤ D) : ∀ l ∈ rBare pass inn 0 ls, l.length ≤ D := by
  intro l hl
  obtain ⟨i, hi⟩ := List.getElem?_of_mem hl
  rw [rBare_at] at hi
  cases hn : ls[i]? with
  | none => rw [hn] at hi; cases hi
  | some l0 =>
    rw [hn] at hi
    simp only [Option.map_some, Option.some.injEq] at hi
    subst hi
    have := h l0 (List.mem_of_getElem? hn)
    split
    · simp
    · exact Nat.le_trans (List.length_filter_le _ _) this
theorem rBare_pts (pass inn : List Bool) (ls : List (List Nat)) (h : Pts ls) : Pts (rBare pass inn 0 ls) := by
  intro l hl q hq
  rw [rBare_len]
  obtain ⟨i, hi⟩ := List.getElem?_of_mem hl
  rw [rBare_at] at hi
  cases hn : ls[i]? with
  | none => rw [hn] at hi; cases hi
  | some l0 =>
    rw [hn] at hi
    simp only [Option.map_some, Option.some.injEq] at hi
    subst hi
    split at hq
    · cases hq
    · exact h l0 (List.mem_of_getElem? hn) q (List.mem_filter.1 hq).1

set_option maxHeartbeats 8000000 in
theorem rcyclic_w (ga : Option Addr) (gc : Nat) (g : List (List Int)) (pa : Option Addr) (pc : Nat) (pass : List Bool) (w : World) (K D : Nat) (R : List Bool) (b : Bool) (hg : RepG w (In w) ga g) (hf : Few g) (hp : RepB w (In w) pa pass) (hpl : pass.length ≤ 9223372036854775807)
    (hD : ∀ l ∈ g, l.length ≤ D) (hD1 : D ≤ 1000000) (hKD : 1 + K * D ≤ 100000000) (hF : rFrom (gNorm g) 0 (-1) K = some R) (hRl : R.length = g.length) (hC : rCirF (rBare pass R 0 (gNorm g)) K 0 (rBare pass R 0 (gNorm g)) = some b) :
    Calls Try.prog 26 #[.slice ga g.length gc, .slice pa pass.length pc] w fun e w' => e = .returned (.bool b) ∧ Ext w w' := by
  have hgn : g.length ≤ 1000000 := hf.1
  have H1 := hide (norm_w ga gc g w hg hf)
  have hnl := gNorm_len g
  have hn : (gNorm g).length ≤ 1000000 := by rw [hnl]; exact hgn
  have hbd := gNorm_bd g D hD
  have hpt := gNorm_pts g
  obtain ⟨N, hN⟩ : ∃ N, N = gNorm g := ⟨_, rfl⟩
  rw [← hN] at H1 hn hbd hpt hF hC hnl
  have H2 := hide (fun (W : World) (P : Nat) (h : RepG W (In W) (some ⟨P, 0, none⟩) (gUpG N)) => rfrom_w (some ⟨P, 0, none⟩) N.length N 0 (-1) W K D R h hn hbd hKD hD1 hF)
  obtain ⟨B, hB⟩ : ∃ B, B = rBare pass R 0 N := ⟨_, rfl⟩
  rw [← hB] at hC
  have hBl : B.length = N.length := by rw [hB, rBare_len]
  have hBb : ∀ l ∈ B, l.length ≤ D := by rw [hB]; exact rBare_bd pass R D N hbd
  have hBp : Pts B := by rw [hB]; exact rBare_pts pass R N hpt
  have HBat : Hd (∀ (p : Nat) (l : List Nat), N[p]? = some l → B[p]? = some (if pass.getD p false || !R.getD p false then [] else rBareL pass l)) := fun p l h => by rw [hB, rBare_at, h, Option.map_some, Nat.zero_add]
  have H3 := hide (fun (W : World) (a : Option Addr) (c : Nat) (q : Nat) (F : List Bool) (h : RepG W (In W) a (gUpG B)) (hF : rFrom B (q : Int) (-1) K = some F) => rfrom_w a c B (q : Int) (-1) W K D F h (by omega) hBb hKD hD1 hF)
  rw [hBl] at H3
  have HBb := hide hBb
  have HBp := hide hBp
  have HBd := hide hbd
  have HP := hide hp
  have HC := hide hC
  clear hg hf hp hD hF hC hN hB hbd hBb hBp hpt
  generalize g.length = n at *
  subst hnl
  obtain ⟨i0, hi, hz0, hz1, hz2⟩ := k_info
  have HI := hide hi
  have Z0 := hide hz0
  have Z1 := hide hz1
  have Z2 := hide hz2
  clear hi hz0 hz1 hz2
  obtain ⟨i1, hi, hz0, hz1, hz2⟩ := k_infoS
  have HJ := hide hi
  have Y0 := hide hz0
  have Y1 := hide hz1
  have Y2 := hide hz2
  clear hi hz0 hz1 hz2
  go_enter Try.func26, Try.ntmps26
  go_wp2_with (first
    | (go_at_call 38; refine Calls.mono (unhide H1) ?_; rintro e w1 ⟨Pn, adn, rfl, s1⟩; have S1 := hide s1; clear s1)
    | (go_at_call 39; refine Calls.mono (unhide H2 w1 Pn (unhide S1).graph) ?_; rintro e w2 ⟨On, rfl, b2, r2, x2⟩; have R2 := hide r2; have S2 := hide ((unhide S1).on x2); have X2 : Hd (Ext w w2) := (unhide S1).ext.trans x2; clear b2 r2 x2))
  clear S1
  go_loopw [7, 8] (fun t7 t8 wr => ∃ (p : Nat) (ads : List (Option Addr × Nat)) (ba : Option Addr) (bc : Nat), t7 = .slice ba p bc ∧ t8 = .int .i64 (p : Int) ∧ p ≤ N.length ∧ Hd (GbS w2 wr (gUpG (B.take p)) ads ba bc)) (fun _ t _ => N.length - (intOf t).toNat)
  case atStart => exact ⟨0, [], none, 0, rfl, rfl, by omega, ⟨Ext.refl w2, rfl, World.ownsRow_nil _ _ _ _, fun i l a h => by simp [gUpG] at h⟩⟩
  case round =>
    obtain ⟨p, ads, ba, bc, rfl, rfl, hp, hI⟩ := hrel
    have hgl : p ≤ N.length → (gUpG (B.take p)).length = p := fun h => by rw [gUpG_len, List.length_take]; omega
    by_cases hlt : p < N.length
    · obtain ⟨l, hl⟩ : ∃ l, N[p]? = some l := ⟨_, List.getElem?_eq_getElem hlt⟩
      obtain ⟨⟨aa, ac⟩, ha, cl⟩ := (unhide S2).at hl
      have hX := (unhide hI).ext
      have rl := hide (((unhide S2).row hl ha).ext hX)
      have cl := hX.cell cl
      simp only at cl
      have hll : l.length ≤ 1000000 := Nat.le_trans (unhide HBd l (List.mem_of_getElem? hl)) hD1
      have hlt2 : (p : Int) < (N.length : Int) := by omega
      have HL := hide hl
      have HI0 : Hd (RlI wr wr pass l 0 [] none 0) := ⟨Ext.refl _, World.ownsRow_nil _ _ _ _, by simp⟩
      clear ha hl
      obtain ⟨wp, hwp⟩ : ∃ wp, wp = wr := ⟨_, rfl⟩
      subst hwp
      go_wp2_with fail
      go_loopw [9, 10] (fun t9 t10 wz => ∃ (k : Nat) (acc : List Nat) (la : Option Addr) (lc : Nat), t9 = .slice la acc.length lc ∧ t10 = .int .i64 (k : Int) ∧ k ≤ l.length ∧ Hd (RlI wp wz pass l k acc la lc)) (fun _ t _ => l.length - (intOf t).toNat)
      case atStart => exact ⟨0, [], none, 0, rfl, rfl, by omega, HI0⟩
      case round =>
        clear HI0
        obtain ⟨k, acc, la, lc, rfl, rfl, hk, hJ⟩ := hrel
        have hXp := (unhide hJ).ext
        have cl' := hXp.cell cl
        have hal := (unhide hJ).len
        by_cases hkl : k < l.length
        · obtain ⟨q, hq⟩ : ∃ q, l[k]? = some q := ⟨_, List.getElem?_eq_getElem hkl⟩
          obtain ⟨lb, lo, e1, _, cq⟩ := (unhide rl).at (j := k) (x := (q : Int)) (by rw [List.getElem?_map, hq]; rfl)
          try simp only at e1
          subst e1
          have cq := hXp.cell cq
          have hkl' : (k : Int) < (l.length : Int) := by omega
          have HO : Hd (∀ ob, (wr.alloc ob).ownsRow wp.heap.size 3 1 (.slice la acc.length lc) acc.length (ns acc)) := fun ob => k_own_heap (unhide hJ).own (fun t ht => (Ext.alloc wr ob).block t ((unhide hJ).own.lt t ht).2)
          have HLe := hide hXp.size
          have HQ := hide hq
          have HPush := hide (fun (hp : pass.getD q false = false) (w3 : World) (ob : Obj) (g' cap' : Nat) => (unhide hJ).push (w3 := w3) (ob := ob) (g' := g') (cap' := cap') q hq hp)
          clear hq
          by_cases hqp : pass.length ≤ q
          · have hqp' : (pass.length : Int) ≤ (q : Int) := by omega
            have hg0 := pass_ge hqp
            have HG0 := hide hg0
            clear hg0
            go_wp2_with (at_builtin; refine kapp_list rfl (.tmp 51) (.tmp 53) 22 rfl wp.heap.size 3 i0 (.int .i64 0) 1 8 Try.underlying22 (unhide HI) (unhide Z0) (unhide Z1) (unhide Z2) rfl (by decide) la acc.length lc _ rfl (unhide HO _) ⟨wr.heap.size, 0, none⟩ 1 1 [.int .i64 (q : Int)] rfl (by decide) rfl (k_new _ _ rfl _ _) (k_one_int _) ?c1 ?c2 ?c3 ?_)
            case c1 => unfold maxLen; omega
            case c2 => omega
            case c3 => first | exact Nat.le_trans (unhide HLe) (Ext.alloc _ _).size | (have := unhide HLe; omega)
            intro g' cap' w3 ho hgr hw
            have S3 := hide (unhide HPush (unhide HG0) w3 _ g' cap' hgr ho)
            clear ho hgr hw
            go_wp2_with fail
            go_roundw
            case rel => exact ⟨k + 1, _, _, _, by first | rfl | simp, by go_num, by omega, S3⟩
            case measure => simp [intOf]; omega
          · obtain ⟨bq, hbq⟩ : ∃ bq, pass[q]? = some bq := ⟨_, List.getElem?_eq_getElem (by omega)⟩
            obtain ⟨pb, po, e2, _, cb⟩ := (unhide HP).at hbq
            subst e2
            have cb := (((unhide X2).trans hX).trans hXp).cell cb
            have hqp' : ¬ (pass.length : Int) ≤ (q : Int) := by omega
            have hqp2 : (q : Int) < (pass.length : Int) := by omega
            have HG0 := hide (pass_lt hbq)
            clear hbq
            cases bq with
            | true =>
              have S3 := hide ((unhide hJ).skip q (unhide HQ) (unhide HG0))
              go_wp2_with fail
              go_roundw
              case rel => exact ⟨k + 1, acc, la, lc, rfl, by go_num, by omega, S3⟩
              case measure => simp [intOf]; omega
            | false =>
              go_wp2_with (at_builtin; refine kapp_list rfl (.tmp 51) (.tmp 53) 22 rfl wp.heap.size 3 i0 (.int .i64 0) 1 8 Try.underlying22 (unhide HI) (unhide Z0) (unhide Z1) (unhide Z2) rfl (by decide) la acc.length lc _ rfl (unhide HO _) ⟨wr.heap.size, 0, none⟩ 1 1 [.int .i64 (q : Int)] rfl (by decide) rfl (k_new _ _ rfl _ _) (k_one_int _) ?c1 ?c2 ?c3 ?_)
              case c1 => unfold maxLen; omega
              case c2 => omega
              case c3 => first | exact Nat.le_trans (unhide HLe) (Ext.alloc _ _).size | (have := unhide HLe; omega)
              intro g' cap' w3 ho hgr hw
              have S3 := hide (unhide HPush (unhide HG0) w3 _ g' cap' hgr ho)
              clear ho hgr hw
              go_wp2_with fail
              go_roundw
              case rel => exact ⟨k + 1, _, _, _, by first | rfl | simp, by go_num, by omega, S3⟩
              case measure => simp [intOf]; omega
        · obtain rfl : k = l.length := by omega
          have hacc : acc = rBareL pass l := by
            have := (unhide hJ).eq
            rw [List.drop_length] at this
            simpa [rBareL] using this
          have HRep := hide (own_repB (unhide hJ).own)
          have hoG := (unhide hI).oG
          rw [hgl hp] at hoG
          have HO2 : Hd (∀ ob, (wr.alloc ob).ownsRow w2.heap.size 22 1 (.slice ba p bc) p (slI (gUpG (B.take p)) ads)) := fun ob => k_own_heap hoG (fun t ht => ((Ext.alloc wr ob).block t (Nat.lt_of_lt_of_le (hoG.lt t ht).2 hXp.size)).trans (hXp.block t (hoG.lt t ht).2))
          have HLe2 := hide (Nat.le_trans hX.size hXp.size)
          have HAdd : Hd (∀ (w3 : World) (ob : Obj) (g' cap' : Nat) (lp : List Nat) (xa : Option Addr) (xc : Nat), RepI wr (fun q => wp.heap.size ≤ q ∧ q < wr.heap.size) xa (lp.map (fun (x : Nat) => (x : Int))) → B[p]? = some lp →
              (wr.alloc ob).grownBy w3 (Value.slice ba p bc).ownBlock → w3.ownsRow w2.heap.size 22 1 (.slice (some ⟨g', 0, none⟩) (p + 1) cap') (p + 1) (slI (gUpG (B.take p)) ads ++ [.slice xa lp.length xc]) → ((Value.slice ba p bc).ownBlock = some g' ∨ wr.heap.size + 1 ≤ g') →
              GbS w2 w3 (gUpG (B.take (p + 1))) (ads ++ [(xa, xc)]) (some ⟨g', 0, none⟩) cap') := fun w3 ob g' cap' lp xa xc h1 h2 h3 h4 h5 => by
            rw [gUpG_take h2]
            have hgl' := hgl hp
            refine (unhide hI).add hXp _ (xa, xc) h1 (ob := ob) ?_ ?_ ?_
            · rw [hgl']; exact h3
            · rw [hgl', List.length_map]; exact h4
            · rw [hgl']; exact h5
          have hBp0 := unhide HBat p l (unhide HL)
          rw [← hacc] at hBp0
          obtain ⟨br, hbr⟩ : ∃ br, R[p]? = some br := ⟨_, List.getElem?_eq_getElem (by omega)⟩
          have cr := (hX.trans hXp).cell ((unhide R2).cell p (bs_at hbr))
          have hbr' : R.getD p false = br := pass_lt hbr
          rw [hbr'] at hBp0
          have HB0 := hide hBp0
          clear hBp0 hacc hoG hbr hbr' hJ
          by_cases hpp : pass.length ≤ p
          · have hpp' : ¬ (p : Int) < (pass.length : Int) := by omega
            have hg0 := hide (pass_ge hpp)
            cases br with
            | false =>
              have HB1 : Hd (B[p]? = some []) := by have := unhide HB0; rw [unhide hg0] at this; exact this
              clear HB0 hg0
              go_wp2_with (at_builtin; refine kapp_list rfl (.tmp 72) (.tmp 74) 23 rfl w2.heap.size 22 i1 (.slice none 0 0) 1 24 Try.underlying23 (unhide HJ) (unhide Y0) (unhide Y1) (unhide Y2) rfl (by decide) ba p bc _ rfl (unhide HO2 _) ⟨wr.heap.size, 0, none⟩ 1 1 [.slice none 0 0] rfl (by decide) rfl (k_new _ _ rfl _ _) (one_sl _ _ _) ?c1 ?c2 ?c3 ?_)
              case c1 => unfold maxLen; omega
              case c2 => omega
              case c3 => first | exact Nat.le_trans (unhide HLe2) (Ext.alloc _ _).size | (have := unhide HLe2; omega)
              intro g' cap' w3 ho hgr hw
              have S3 := hide (unhide HAdd w3 _ g' cap' [] none 0 (Or.inl rfl) (unhide HB1) hgr ho (hw.imp id (fun e => by simpa using e)))
              clear ho hgr hw
              go_wp2_with fail
              go_roundw
              case rel => exact ⟨p + 1, _, _, _, rfl, by go_num, by omega, S3⟩
              case measure => simp [intOf]; omega
            | true =>
              have HB1 : Hd (B[p]? = some acc) := by have := unhide HB0; rw [unhide hg0] at this; exact this
              clear HB0 hg0
              go_wp2_with (at_builtin; refine kapp_list rfl (.tmp 72) (.tmp 74) 23 rfl w2.heap.size 22 i1 (.slice none 0 0) 1 24 Try.underlying23 (unhide HJ) (unhide Y0) (unhide Y1) (unhide Y2) rfl (by decide) ba p bc _ rfl (unhide HO2 _) ⟨wr.heap.size, 0, none⟩ 1 1 [.slice la acc.length lc] rfl (by decide) rfl (k_new _ _ rfl _ _) (one_sl _ _ _) ?c1 ?c2 ?c3 ?_)
              case c1 => unfold maxLen; omega
              case c2 => omega
              case c3 => first | exact Nat.le_trans (unhide HLe2) (Ext.alloc _ _).size | (have := unhide HLe2; omega)
              intro g' cap' w3 ho hgr hw
              have S3 := hide (unhide HAdd w3 _ g' cap' acc la lc (unhide HRep) (unhide HB1) hgr ho (hw.imp id (fun e => by simpa using e)))
              clear ho hgr hw
              go_wp2_with fail
              go_roundw
              case rel => exact ⟨p + 1, _, _, _, rfl, by go_num, by omega, S3⟩
              case measure => simp [intOf]; omega
          · obtain ⟨bq, hbq⟩ : ∃ bq, pass[p]? = some bq := ⟨_, List.getElem?_eq_getElem (by omega)⟩
            obtain ⟨pb, po, e2, _, cb⟩ := (unhide HP).at hbq
            subst e2
            have cb := (((unhide X2).trans hX).trans hXp).cell cb
            have hpp' : (p : Int) < (pass.length : Int) := by omega
            have hg0 := hide (pass_lt hbq)
            clear hbq
            cases bq with
            | true =>
              have HB1 : Hd (B[p]? = some []) := by have := unhide HB0; rw [unhide hg0] at this; exact this
              clear HB0 hg0
              go_wp2_with (at_builtin; refine kapp_list rfl (.tmp 72) (.tmp 74) 23 rfl w2.heap.size 22 i1 (.slice none 0 0) 1 24 Try.underlying23 (unhide HJ) (unhide Y0) (unhide Y1) (unhide Y2) rfl (by decide) ba p bc _ rfl (unhide HO2 _) ⟨wr.heap.size, 0, none⟩ 1 1 [.slice none 0 0] rfl (by decide) rfl (k_new _ _ rfl _ _) (one_sl _ _ _) ?c1 ?c2 ?c3 ?_)
              case c1 => unfold maxLen; omega
              case c2 => omega
              case c3 => first | exact Nat.le_trans (unhide HLe2) (Ext.alloc _ _).size | (have := unhide HLe2; omega)
              intro g' cap' w3 ho hgr hw
              have S3 := hide (unhide HAdd w3 _ g' cap' [] none 0 (Or.inl rfl) (unhide HB1) hgr ho (hw.imp id (fun e => by simpa using e)))
              clear ho hgr hw
              go_wp2_with fail
              go_roundw
              case rel => exact ⟨p + 1, _, _, _, rfl, by go_num, by omega, S3⟩
              case measure => simp [intOf]; omega
            | false =>
              cases br with
              | false =>
                have HB1 : Hd (B[p]? = some []) := by have := unhide HB0; rw [unhide hg0] at this; exact this
                clear HB0 hg0
                go_wp2_with (at_builtin; refine kapp_list rfl (.tmp 72) (.tmp 74) 23 rfl w2.heap.size 22 i1 (.slice none 0 0) 1 24 Try.underlying23 (unhide HJ) (unhide Y0) (unhide Y1) (unhide Y2) rfl (by decide) ba p bc _ rfl (unhide HO2 _) ⟨wr.heap.size, 0, none⟩ 1 1 [.slice none 0 0] rfl (by decide) rfl (k_new _ _ rfl _ _) (one_sl _ _ _) ?c1 ?c2 ?c3 ?_)
                case c1 => unfold maxLen; omega
                case c2 => omega
                case c3 => first | exact Nat.le_trans (unhide HLe2) (Ext.alloc _ _).size | (have := unhide HLe2; omega)
                intro g' cap' w3 ho hgr hw
                have S3 := hide (unhide HAdd w3 _ g' cap' [] none 0 (Or.inl rfl) (unhide HB1) hgr ho (hw.imp id (fun e => by simpa using e)))
                clear ho hgr hw
                go_wp2_with fail
                go_roundw
                case rel => exact ⟨p + 1, _, _, _, rfl, by go_num, by omega, S3⟩
                case measure => simp [intOf]; omega
              | true =>
                have HB1 : Hd (B[p]? = some acc) := by have := unhide HB0; rw [unhide hg0] at this; exact this
                clear HB0 hg0
                go_wp2_with (at_builtin; refine kapp_list rfl (.tmp 72) (.tmp 74) 23 rfl w2.heap.size 22 i1 (.slice none 0 0) 1 24 Try.underlying23 (unhide HJ) (unhide Y0) (unhide Y1) (unhide Y2) rfl (by decide) ba p bc _ rfl (unhide HO2 _) ⟨wr.heap.size, 0, none⟩ 1 1 [.slice la acc.length lc] rfl (by decide) rfl (k_new _ _ rfl _ _) (one_sl _ _ _) ?c1 ?c2 ?c3 ?_)
                case c1 => unfold maxLen; omega
                case c2 => omega
                case c3 => first | exact Nat.le_trans (unhide HLe2) (Ext.alloc _ _).size | (have := unhide HLe2; omega)
                intro g' cap' w3 ho hgr hw
                have S3 := hide (unhide HAdd w3 _ g' cap' acc la lc (unhide HRep) (unhide HB1) hgr ho (hw.imp id (fun e => by simpa using e)))
                clear ho hgr hw
                go_wp2_with fail
                go_roundw
                case rel => exact ⟨p + 1, _, _, _, rfl, by go_num, by omega, S3⟩
                case measure => simp [intOf]; omega
    · obtain rfl : p = N.length := by omega
      have HS : Hd (GbS w2 wr (gUpG B) ads ba bc) := by
        have := unhide hI
        rw [List.take_of_length_le (by omega)] at this
        exact this
      have HGr := hide (unhide HS).graph
      have HXb : Hd (Ext w wr) := (unhide X2).trans (unhide HS).ext
      have HC0 : Hd (rCirF B K 0 (B.drop 0) = some b) := by rw [List.drop_zero]; exact HC
      obtain ⟨wb, hwb⟩ : ∃ wb, wb = wr := ⟨_, rfl⟩
      subst hwb
      clear hI HS hgl hp HC
      go_wp2_with fail
      go_loopw [12] (fun t wr => ∃ (p : Nat), t = .int .i64 (p : Int) ∧ p ≤ N.length ∧ Hd (Ext wb wr) ∧ Hd (rCirF B K p (B.drop p) = some b)) (fun t _ => N.length - (intOf t).toNat)
      case atStart => exact ⟨0, rfl, by omega, Ext.refl _, HC0⟩
      case round =>
        clear HC0
        obtain ⟨p, rfl, hp, hX, hE⟩ := hrel
        by_cases hlt : p < N.length
        · obtain ⟨l, hl⟩ : ∃ l, B[p]? = some l := ⟨_, List.getElem?_eq_getElem (by omega)⟩
          obtain ⟨gb, go, ia, ic, e1, _, cl, rl⟩ := (unhide HGr).at (j := p) (l := l.map (fun (x : Nat) => (x : Int))) (by unfold gUpG; rw [List.getElem?_map, hl]; rfl)
          subst e1
          rw [List.length_map] at cl
          have HRl := hide rl
          have hll : l.length ≤ 1000000 := Nat.le_trans (unhide HBb l (List.mem_of_getElem? hl)) hD1
          have hlp := hide (unhide HBp l (List.mem_of_getElem? hl))
          have hdr : B.drop p = l :: B.drop (p + 1) := by
            have hpB : p < B.length := by omega
            rw [List.getElem?_eq_getElem hpB] at hl
            injection hl with hl
            rw [List.drop_eq_getElem_cons hpB, hl]
          have hE1 := unhide hE
          rw [hdr, rCirF] at hE1
          have HE1 := hide hE1
          have HI0 : Hd (rCirL B K p (l.drop 0) = rCirL B K p l) := by rw [List.drop_zero]; exact rfl
          have hlt2 : (p : Int) < (N.length : Int) := by omega
          clear hE hE1 hdr hl rl
          have cl1 := (unhide hX).cell cl
          go_wp2_with fail
          go_loopw [13] (fun t wr => ∃ (k : Nat), t = .int .i64 (k : Int) ∧ k ≤ l.length ∧ Hd (Ext wb wr) ∧ Hd (rCirL B K p (l.drop k) = rCirL B K p l)) (fun t _ => l.length - (intOf t).toNat)
          case atStart => exact ⟨0, rfl, by omega, hX, HI0⟩
          case round =>
            clear HI0 hX cl1
            obtain ⟨k, rfl, hk, hX, hE⟩ := hrel
            have cl1 := (unhide hX).cell cl
            by_cases hkl : k < l.length
            · obtain ⟨q, hq⟩ : ∃ q, l[k]? = some q := ⟨_, List.getElem?_eq_getElem hkl⟩
              obtain ⟨lb, lo, e1, _, cq⟩ := (unhide HRl).at (j := k) (x := (q : Int)) (by rw [List.getElem?_map, hq]; rfl)
              subst e1
              have cq := (unhide hX).cell cq
              have hdr : l.drop k = q :: l.drop (k + 1) := by
                rw [List.getElem?_eq_getElem hkl] at hq
                injection hq with hq
                rw [List.drop_eq_getElem_cons hkl, hq]
              have hkl' : (k : Int) < (l.length : Int) := by omega
              have hE2 := unhide hE
              rw [hdr, rCirL] at hE2
              clear hdr hq hE
              cases hF : rFrom B (q : Int) (-1) K with
              | none => rw [hF] at hE2; have := unhide HE1; rw [← hE2] at this; cases this
              | some F =>
              rw [hF] at hE2
              simp only at hE2
              cases hFp : F[p]? with
              | none => rw [hFp] at hE2; have := unhide HE1; rw [← hE2] at this; cases this
              | some bF =>
              rw [hFp] at hE2
              have HCall := hide (unhide H3 wr (some ⟨gb, go, none⟩) bc q F ((unhide HGr).ext (unhide hX)) hF)
              have HFp := hide hFp
              have hpF : Hd (p < F.length) := (List.getElem?_eq_some_iff.1 hFp).1
              have HE2 := hide hE2
              clear hF hFp hE2
              cases bF with
              | true =>
                have hb : Hd (b = true) := by
                  have h1 := unhide HE1
                  rw [← unhide HE2] at h1
                  exact (Option.some.inj h1).symm
                go_wp2_with (go_at_call 39; refine Calls.mono (unhide HCall) ?_; rintro e w5 ⟨O5, rfl, b5, r5, x5⟩; have hpF2 : (p : Int) < (F.length : Int) := (by have := unhide hpF; omega); have c5 : w5.cell? ⟨O5, p, none⟩ = some (.bool true) := r5.cell p (bs_at (unhide HFp)); have X5 : Hd (Ext wb w5) := (unhide hX).trans x5; clear b5 r5 x5)
                go_ret
                exact ⟨by rw [unhide hb]; rfl, (unhide HXb).trans (unhide X5)⟩
              | false =>
                go_wp2_with (go_at_call 39; refine Calls.mono (unhide HCall) ?_; rintro e w5 ⟨O5, rfl, b5, r5, x5⟩; have hpF2 : (p : Int) < (F.length : Int) := (by have := unhide hpF; omega); have c5 : w5.cell? ⟨O5, p, none⟩ = some (.bool false) := r5.cell p (bs_at (unhide HFp)); have X5 : Hd (Ext wb w5) := (unhide hX).trans x5; clear b5 r5 x5)
                go_roundw
                case rel => exact ⟨k + 1, by go_num, by omega, X5, HE2⟩
                case measure => simp [intOf]; omega
            · obtain rfl : k = l.length := by omega
              have HE3 : Hd (rCirF B K (p + 1) (B.drop (p + 1)) = some b) := by
                have h1 := unhide hE
                rw [List.drop_length, rCirL] at h1
                have h2 := unhide HE1
                rw [← h1] at h2
                exact h2
              go_wp2_with fail
              go_roundw
              case rel => exact ⟨p + 1, by go_num, by omega, hX, HE3⟩
              case measure => simp [intOf]; omega
        · obtain rfl : p = N.length := by omega
          have hb : Hd (b = false) := by
            have h1 := unhide hE
            rw [List.drop_of_length_le (by omega), rCirF] at h1
            exact (Option.some.inj h1).symm
          go_wp2_with fail
          go_ret
          exact ⟨by rw [unhide hb]; rfl, (unhide HXb).trans (unhide hX)⟩

end Go.Proofs.Ytpfjafjpijmckaa
