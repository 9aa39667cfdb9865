/- The document's Doms. -/
import Derived.Test.YtpfjafjpijmckaaGrDf
set_option linter.unusedSimpArgs false
set_option linter.unusedVariables false
set_option maxRecDepth 10000
namespace Go.Proofs.Ytpfjafjpijmckaa
open Go.RowKit

theorem RepGB.cells {w : World} {F : Nat → Prop} {O : List (List Bool)} {oa : Option Addr} {n : Nat} (h : RepGB w F oa O) (hl : O.length = n) (hr : ∀ l ∈ O, l.length = n) (h0 : 0 < n) : ∃ ob oo, oa = some ⟨ob, oo, none⟩ ∧ ∀ x y : Nat, x < n → y < n → ∃ ib io ic, w.cell? ⟨ob, oo + x, none⟩ = some (.slice (some ⟨ib, io, none⟩) n ic) ∧ w.cell? ⟨ib, io + y, none⟩ = some (.bool (oFn O x y)) := by
  rcases h with e | ⟨b, o, rfl, hf, hc⟩
  · subst e; simp at hl; omega
  · refine ⟨b, o, rfl, fun x y hx hy => ?_⟩
    obtain ⟨l, hlx⟩ : ∃ l, O[x]? = some l := ⟨_, List.getElem?_eq_getElem (by omega)⟩
    obtain ⟨ia, ic, h1, h2⟩ := hc x l hlx
    have hll := hr l (List.mem_of_getElem? hlx)
    obtain ⟨v, hv⟩ : ∃ v, l[y]? = some v := ⟨_, List.getElem?_eq_getElem (by omega)⟩
    obtain ⟨ib, io, rfl, _, h3⟩ := h2.at hv
    refine ⟨ib, io, ic, by rw [← hll]; exact h1, ?_⟩
    have : oFn O x y = v := by unfold oFn; rw [List.getD_eq_getElem?_getD (l := O), hlx, Option.getD_some, List.getD_eq_getElem?_getD, hv]; rfl
    rw [this]
    exact h3
def lsB (n : Nat) (f : Nat → Int) (b : Nat) (r : Int) : List Int := (List.range b).map f ++ r :: List.replicate (n - (b + 1)) 0
theorem lsB_start (n : Nat) (f : Nat → Int) (b : Nat) (h : b < n) (r : Int) : ((List.range b).map f ++ List.replicate (n - b) 0).set b r = lsB n f b r := by
  unfold lsB
  rw [List.set_append_right _ _ (by simp), List.length_map, List.length_range, Nat.sub_self, show n - b = n - (b + 1) + 1 by omega, List.replicate_succ, List.set_cons_zero]
theorem lsB_set (n : Nat) (f : Nat → Int) (b : Nat) (r r2 : Int) : (lsB n f b r).set b r2 = lsB n f b r2 := by
  unfold lsB
  rw [List.set_append_right _ _ (by simp), List.length_map, List.length_range, Nat.sub_self, List.set_cons_zero]
theorem lsB_end (n : Nat) (f : Nat → Int) (b : Nat) : lsB n f b (f b) = (List.range (b + 1)).map f ++ List.replicate (n - (b + 1)) 0 := by
  unfold lsB
  rw [List.range_succ]
  simp
theorem lsB_at (n : Nat) (f : Nat → Int) (b : Nat) (r : Int) : (lsB n f b r)[b]? = some r := by
  unfold lsB
  rw [List.getElem?_append_right (by simp), List.length_map, List.length_range, Nat.sub_self]
  rfl
theorem zs_set (l : List Int) (j : Nat) (x : Int) : (zs l).set j (.int .i64 x) = zs (l.set j x) := by simp [zs, List.map_set]
/-- The row of answers, with one under way. -/
structure RdI (w2 wr : World) (n : Nat) (f : Nat → Int) (Ob b : Nat) (r : Int) : Prop where
  ext : Ext w2 wr
  bO : w2.heap.size ≤ Ob
  rO : Row wr Ob 3 (zs (lsB n f b r))
theorem RdI.set {w2 wr : World} {n : Nat} {f : Nat → Int} {Ob b : Nat} {r : Int} (h : RdI w2 wr n f Ob b r) (r2 : Int) : RdI w2 (wr.setCell ⟨Ob, b, none⟩ (.int .i64 r2)) n f Ob b r2 := by
  refine ⟨h.ext.set (p := ⟨Ob, b, none⟩) h.bO _, h.bO, ?_⟩
  have := h.rO.set b (.int .i64 r2)
  rw [zs_set, lsB_set] at this
  exact this
theorem range_drop {n a : Nat} (h : a < n) : (List.range n).drop a = a :: (List.range n).drop (a + 1) := by
  rw [List.drop_eq_getElem_cons (by simpa using h), List.getElem_range]
def lstT (o : Nat → Nat → Bool) (b a c : Nat) : Bool := !(c != b && (o c b && !o c a))
theorem all_succ (p : Nat → Bool) (c : Nat) : (List.range (c + 1)).all p = ((List.range c).all p && p c) := by
  rw [List.range_succ, List.all_append]
  simp


set_option maxHeartbeats 8000000 in
theorem rdoms_w (ga : Option Addr) (gc n : Nat) (w : World) (O : List (List Bool)) (hn : n ≤ 1000000) (hOl : O.length = n) (hOr : ∀ l ∈ O, l.length = n)
    (HOv : Calls Try.prog 24 #[.slice ga n gc] w fun e w' => ∃ oa oc, e = .returned (.slice oa n oc) ∧ RepGB w' (In w') oa O ∧ Ext w w') :
    Calls Try.prog 23 #[.slice ga n gc] w fun e w' => ∃ b, e = .returned (slV b n) ∧ Row w' b 3 (zs ((List.range n).map (fun b => rDmS n (oFn O) b (List.range n) (-1)))) ∧ Ext w w' := by
  have H1 := hide HOv
  have hmk := make_ints n hn
  obtain ⟨f, hf⟩ : ∃ f : Nat → Int, f = fun b => rDmS n (oFn O) b (List.range n) (-1) := ⟨_, rfl⟩
  have HF : Hd (∀ b, rDmS n (oFn O) b ((List.range n).drop 0) (-1) = f b) := fun b => by rw [hf, List.drop_zero]
  rw [← hf]
  have HOl := hide hOl
  have HOr := hide hOr
  clear HOv hf hOl hOr
  go_enter Try.func23, Try.ntmps23
  go_wp2_with (go_at_call 24; refine Calls.mono (unhide H1) ?_; rintro e w2 ⟨oa, oc, rfl, r2, x2⟩; have R2 := hide r2; have X2 := hide x2; have hmk2 := hmk w2; clear r2 x2)
  have HR0 : Hd (Row (w2.alloc (.cells (zs (List.replicate n 0)).toArray 3)) w2.heap.size 3 (zs ((List.range 0).map f ++ List.replicate (n - 0) 0))) := by
    have := Row.new w2 (zs (List.replicate n 0)) 3
    simpa [Hd] using this
  have HX0 : Hd (Ext w2 (w2.alloc (.cells (zs (List.replicate n 0)).toArray 3))) := Ext.alloc _ _
  clear hmk hmk2 H1
  go_loopw [5] (fun t wr => ∃ (b : Nat), t = .int .i64 (b : Int) ∧ b ≤ n ∧ Hd (Ext w2 wr) ∧ Hd (Row wr w2.heap.size 3 (zs ((List.range b).map f ++ List.replicate (n - b) 0)))) (fun t _ => n - (intOf t).toNat)
  case atStart => exact ⟨0, rfl, by omega, by first | exact HX0 | (have := HX0; simpa [zs] using this), by first | exact HR0 | (have := HR0; simpa [zs] using this)⟩
  case round =>
    clear HR0 HX0
    obtain ⟨b, rfl, hb, hX, hR⟩ := hrel
    by_cases hlt : b < n
    · obtain ⟨ob, oo, e0, hcell⟩ := (unhide R2).cells (unhide HOl) (unhide HOr) (by omega)
      subst e0
      have HCell := hide hcell
      obtain ⟨y, hy⟩ : ∃ y, ((List.range b).map f ++ List.replicate (n - b) 0)[b]? = some y := ⟨_, List.getElem?_eq_getElem (by simp; omega)⟩
      have cy := (unhide hR).cell b (v := .int .i64 y) (by rw [zs, List.getElem?_map, hy]; rfl)
      have fy := k_rowF (unhide hR) b
      have hlt2 : (b : Int) < (n : Int) := by omega
      have HI0 : Hd (RdI w2 (wr.setCell ⟨w2.heap.size, b, none⟩ (.int .i64 (-1))) n f w2.heap.size b (-1)) := by
        refine ⟨(unhide hX).set (p := ⟨w2.heap.size, b, none⟩) (Nat.le_refl _) _, Nat.le_refl _, ?_⟩
        have := (unhide hR).set b (.int .i64 (-1))
        rw [zs_set, lsB_start n f b hlt] at this
        exact this
      have HE0 := hide (unhide HF b)
      clear hcell hy hX hR
      go_wp2_with fail
      clear cy fy
      go_loopw [6] (fun t wr => ∃ (a : Nat) (r : Int), t = .int .i64 (a : Int) ∧ a ≤ n ∧ Hd (RdI w2 wr n f w2.heap.size b r) ∧ Hd (rDmS n (oFn O) b ((List.range n).drop a) r = f b)) (fun t _ => n - (intOf t).toNat)
      case atStart => exact ⟨0, -1, rfl, by omega, HI0, HE0⟩
      case round =>
        clear HI0 HE0
        obtain ⟨a, r, rfl, ha, hI, hE⟩ := hrel
        by_cases hla : a < n
        · have hE1 := unhide hE
          rw [range_drop hla, rDmS] at hE1
          have HE1 := hide hE1
          have hla2 : (a : Int) < (n : Int) := by omega
          obtain ⟨ib, io, ic, c1, c2⟩ := unhide HCell a b hla hlt
          have c1 := (unhide hI).ext.cell c1
          have c2 := (unhide hI).ext.cell c2
          clear hE hE1
          by_cases hab : a = b
          · have HE2 : Hd (rDmS n (oFn O) b ((List.range n).drop (a + 1)) r = f b) := by
              have := unhide HE1
              rw [show rDmC n (oFn O) b a = false by unfold rDmC; rw [hab]; simp] at this
              exact this
            have hab' : ((a : Int) == (b : Int)) = true := by rw [hab]; simp
            have hab2 : (a : Int) = (b : Int) := by omega
            clear HE1 c1 c2
            go_wp2_with fail
            go_roundw
            case rel => exact ⟨a + 1, r, by go_num, by omega, hI, HE2⟩
            case measure => simp [intOf]; omega
          · have hab' : ((a : Int) == (b : Int)) = false := by rw [beq_eq_false_iff_ne]; omega
            have hab3 : (a != b) = true := by rw [bne_iff_ne]; exact hab
            cases hoab : oFn O a b with
            | false =>
              rw [hoab] at c2
              have HE2 : Hd (rDmS n (oFn O) b ((List.range n).drop (a + 1)) r = f b) := by
                have := unhide HE1
                rw [show rDmC n (oFn O) b a = false by unfold rDmC; rw [hoab]; simp] at this
                exact this
              clear HE1 hab3 hoab
              go_wp2_with fail
              go_roundw
              case rel => exact ⟨a + 1, r, by go_num, by omega, hI, HE2⟩
              case measure => simp [intOf]; omega
            | true =>
              rw [hoab] at c2
              have HAB := hide hoab
              have HAB3 := hide hab3
              clear hoab hab3
              obtain ⟨wp, hwp⟩ : ∃ wp, wp = wr := ⟨_, rfl⟩
              subst hwp
              go_wp2_with fail
              go_loopw [7, 8] (fun t7 t8 wz => ∃ (l : Bool) (c : Nat), t7 = .bool l ∧ t8 = .int .i64 (c : Int) ∧ c ≤ n ∧ wz = wp ∧ Hd (l = (List.range c).all (lstT (oFn O) b a))) (fun _ t _ => n - (intOf t).toNat)
              case atStart => exact ⟨true, 0, rfl, rfl, by omega, by first | rfl | trivial, by simp [Hd]⟩
              case round =>
                clear c1 c2
                obtain ⟨l, c, rfl, rfl, hc, rfl, hl⟩ := hrel
                by_cases hlc : c < n
                · have hlc2 : (c : Int) < (n : Int) := by omega
                  by_cases hcb : c = b
                  · have hcb' : ((c : Int) == (b : Int)) = true := by rw [hcb]; simp
                    have hcb2 : (c : Int) = (b : Int) := by omega
                    have HL2 : Hd (l = (List.range (c + 1)).all (lstT (oFn O) b a)) := by
                      show _ = _
                      rw [all_succ, ← unhide hl, show lstT (oFn O) b a c = true by unfold lstT; rw [hcb]; simp]
                      simp
                    clear hl
                    go_wp2_with fail
                    go_roundw
                    case rel => exact ⟨_, c + 1, rfl, by go_num, by omega, by first | rfl | trivial, HL2⟩
                    case measure => simp [intOf]; omega
                  · have hcb' : ((c : Int) == (b : Int)) = false := by rw [beq_eq_false_iff_ne]; omega
                    obtain ⟨ib1, io1, ic1, d1, d2⟩ := unhide HCell c b hlc hlt
                    obtain ⟨ib2, io2, ic2, d3, d4⟩ := unhide HCell c a hlc hla
                    rw [d1] at d3
                    injection d3 with d3
                    injection d3 with d3 _ d5
                    injection d3 with d3
                    injection d3 with d3 d6
                    subst d3 d5 d6
                    have d1 := (unhide hI).ext.cell d1
                    have d2 := (unhide hI).ext.cell d2
                    have d4 := (unhide hI).ext.cell d4
                    cases hocb : oFn O c b with
                    | false =>
                      rw [hocb] at d2
                      have HT := hide (show lstT (oFn O) b a c = true by unfold lstT; rw [hocb]; simp)
                      clear hocb
                      have HL2 : Hd (l = (List.range (c + 1)).all (lstT (oFn O) b a)) := by
                        show _ = _
                        rw [all_succ, ← unhide hl, unhide HT]
                        simp
                      clear hl
                      go_wp2_with fail
                      go_roundw
                      case rel => exact ⟨_, c + 1, rfl, by go_num, by omega, by first | rfl | trivial, HL2⟩
                      case measure => simp [intOf]; omega
                    | true =>
                      rw [hocb] at d2
                      cases hoca : oFn O c a with
                      | true =>
                        rw [hoca] at d4
                        have HT := hide (show lstT (oFn O) b a c = true by unfold lstT; rw [hoca]; simp)
                        clear hocb hoca
                        have HL2 : Hd (l = (List.range (c + 1)).all (lstT (oFn O) b a)) := by
                          show _ = _
                          rw [all_succ, ← unhide hl, unhide HT]
                          simp
                        clear hl
                        go_wp2_with fail
                        go_roundw
                        case rel => exact ⟨_, c + 1, rfl, by go_num, by omega, by first | rfl | trivial, HL2⟩
                        case measure => simp [intOf]; omega
                      | false =>
                        rw [hoca] at d4
                        have HT := hide (show lstT (oFn O) b a c = false by unfold lstT; rw [hocb, hoca]; simp; exact hcb)
                        clear hocb hoca
                        have HL2 : Hd (false = (List.range (c + 1)).all (lstT (oFn O) b a)) := by
                          show _ = _
                          rw [all_succ, ← unhide hl, unhide HT]
                          simp
                        clear hl
                        go_wp2_with fail
                        go_roundw
                        case rel => exact ⟨_, c + 1, rfl, by go_num, by omega, by first | rfl | trivial, HL2⟩
                        case measure => simp [intOf]; omega
                · obtain rfl : c = n := by omega
                  have HLs : Hd (l = rLst c (oFn O) b a) := unhide hl
                  cases l with
                  | false =>
                    have HE2 : Hd (rDmS c (oFn O) b ((List.range c).drop (a + 1)) r = f b) := by
                      have := unhide HE1
                      rw [show rDmC c (oFn O) b a = false by unfold rDmC; rw [← unhide HLs]; simp] at this
                      exact this
                    clear HE1 HLs hl
                    go_wp2_with fail
                    go_roundw
                    case rel => exact ⟨a + 1, r, by go_num, by omega, hI, HE2⟩
                    case measure => simp [intOf]; omega
                  | true =>
                    have HE2 : Hd (rDmS c (oFn O) b ((List.range c).drop (a + 1)) (a : Int) = f b) := by
                      have := unhide HE1
                      rw [show rDmC c (oFn O) b a = true by unfold rDmC; rw [← unhide HLs, unhide HAB, unhide HAB3]; rfl] at this
                      exact this
                    have HI2 := hide ((unhide hI).set (a : Int))
                    have cy := (unhide hI).rO.cell b (v := .int .i64 r) (by rw [zs, List.getElem?_map, lsB_at]; rfl)
                    have fy := k_rowF (unhide hI).rO b
                    clear HE1 HLs hl hI
                    go_wp2_with fail
                    go_roundw
                    case rel => exact ⟨a + 1, (a : Int), by go_num, by omega, HI2, HE2⟩
                    case measure => simp [intOf]; omega
        · obtain rfl : a = n := by omega
          have hr : r = f b := by
            have := unhide hE
            rw [List.drop_of_length_le (by simp), rDmS] at this
            exact this
          have HX3 := hide (unhide hI).ext
          have HR3 : Hd (Row wr w2.heap.size 3 (zs ((List.range (b + 1)).map f ++ List.replicate (a - (b + 1)) 0))) := by
            have := (unhide hI).rO
            rw [hr, lsB_end] at this
            exact this
          clear hI hE hr
          go_wp2_with fail
          go_roundw
          case rel => exact ⟨b + 1, by go_num, by omega, HX3, HR3⟩
          case measure => simp [intOf]; omega
    · obtain rfl : b = n := by omega
      have HR3 : Hd (Row wr w2.heap.size 3 (zs ((List.range b).map f))) := by
        have := unhide hR
        rw [Nat.sub_self, List.replicate_zero, List.append_nil] at this
        exact this
      clear hR
      go_wp2_with fail
      go_ret
      exact ⟨w2.heap.size, rfl, unhide HR3, (unhide X2).trans (unhide hX)⟩

end Go.Proofs.Ytpfjafjpijmckaa
