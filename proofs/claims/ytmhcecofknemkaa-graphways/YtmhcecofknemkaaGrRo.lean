/- What leads to each point, by the document. -/
import Derived.Test.YtmhcecofknemkaaGrRoA
set_option linter.unusedSimpArgs false
set_option linter.unusedVariables false
set_option maxRecDepth 10000
namespace Go.Proofs.Ytmhcecofknemkaa
open Go.RowKit

/-- In the i-th list, behind its first j. -/
structure RpI (w wr : World) (P : Nat) (N : List (List Nat)) (i j : Nat) (l : List Nat) (R ls : List (List Nat)) (ads : List (Option Addr × Nat)) : Prop where
  S : RwS w wr P ls ads
  len : ls.length = N.length
  eq : rPredF (N.drop (i + 1)) (i + 1) (rPredL i (l.drop j) ls) = R
  bd : ∀ (q : Nat) (o : List Nat), ls[q]? = some o → o.length ≤ 1000000 * i + j
/-- Between two lists. -/
structure RpO (w wr : World) (P : Nat) (N : List (List Nat)) (i : Nat) (R ls : List (List Nat)) (ads : List (Option Addr × Nat)) : Prop where
  S : RwS w wr P ls ads
  len : ls.length = N.length
  eq : rPredF (N.drop i) i ls = R
  bd : ∀ (q : Nat) (o : List Nat), ls[q]? = some o → o.length ≤ 1000000 * i

def RPredE (w : World) (ls : List (List Nat)) (e : Ending) (w' : World) : Prop := ∃ w1 P ads, e = .returned (.slice (some ⟨P, 0, none⟩) ls.length ls.length) ∧ Ext w w1 ∧ RwS w1 w' P ls ads

set_option maxHeartbeats 4000000 in
theorem rpreds_w (ga : Option Addr) (gc : Nat) (g : List (List Int)) (w : World) (hg : RepG w (In w) ga g) (hf : Few g) :
    Calls Try.prog 18 #[.slice ga g.length gc] w (RPredE w (rPreds (gNorm g))) := by
  have hgn : g.length ≤ 1000000 := hf.1
  have H1 := hide (norm_w ga gc g w hg hf)
  have hpt := gNorm_pts g
  have hbd := gNorm_bd g 1000000 hf.2
  have hnl := gNorm_len g
  clear hg hf
  generalize gNorm g = N at H1 hpt hbd hnl ⊢
  generalize g.length = n at H1 hgn hnl ⊢
  subst hnl
  obtain ⟨R, hR⟩ : ∃ R, R = rPreds N := ⟨_, rfl⟩
  rw [← hR]
  have HR0 : Hd (rPredF (N.drop 0) 0 (List.replicate N.length []) = R) := by rw [List.drop_zero, hR, rPreds]; rfl
  have HPt := hide hpt
  have HBd := hide hbd
  clear hpt hbd hR
  have HRf : Hd (∀ (w1 : World) (ob : Obj), ob = (Obj.cells (List.replicate N.length (Value.slice none 0 0)).toArray 22) → RpO w1 (w1.alloc ob) w1.heap.size N 0 R (List.replicate N.length []) (List.replicate N.length (none, 0))) := fun w1 ob e => by
    rw [e]
    exact ⟨RwS.new w1 N.length, by simp, unhide HR0, fun q o ho => by rw [List.eq_of_mem_replicate (List.mem_of_getElem? ho)]; simp⟩
  go_enter Try.func18, Try.ntmps18
  go_wp2_with (go_at_call 38; refine Calls.mono (unhide H1) ?_; rintro e w1 ⟨Pn, adn, rfl, s1⟩; have S1 := hide s1; have hmk := make_lists N.length hgn w1; obtain ⟨ob, hob⟩ : ∃ ob, ob = (Obj.cells (List.replicate N.length (Value.slice none 0 0)).toArray 22) := ⟨_, rfl⟩; rw [← hob] at hmk; have HP0 := hide (unhide HRf w1 ob hob); clear s1 hob)
  clear HRf HR0
  go_loopw [5] (fun t wr => ∃ (i : Nat) (ls : List (List Nat)) (ads : List (Option Addr × Nat)), t = .int .i64 (i : Int) ∧ i ≤ N.length ∧ Hd (RpO w1 wr w1.heap.size N i R ls ads)) (fun t _ => N.length - (intOf t).toNat)
  case atStart => exact ⟨0, _, _, rfl, by omega, HP0⟩
  case round =>
    clear HP0 hmk
    obtain ⟨i, ls, ads, rfl, hi, hI⟩ := hrel
    by_cases hlt : i < N.length
    · obtain ⟨l, hl⟩ : ∃ l, N[i]? = some l := ⟨_, List.getElem?_eq_getElem hlt⟩
      obtain ⟨⟨aa, ac⟩, ha, cl⟩ := (unhide S1).at hl
      have rl := (unhide S1).row hl ha
      have hll : l.length ≤ 1000000 := unhide HBd l (List.mem_of_getElem? hl)
      have hlp : ∀ q ∈ l, q < N.length := unhide HPt l (List.mem_of_getElem? hl)
      have HI0 : Hd (RpI w1 wr w1.heap.size N i 0 l R ls ads) := ⟨(unhide hI).S, (unhide hI).len, by
        have := (unhide hI).eq
        rw [List.getElem?_eq_getElem hlt] at hl
        injection hl with hl
        rw [List.drop_eq_getElem_cons hlt, hl, rPredF] at this
        rw [List.drop_zero]
        exact this, fun q o ho => by have := (unhide hI).bd q o ho; omega⟩
      have HRl := hide rl
      have HLp := hide hlp
      have hlt2 : (i : Int) < (N.length : Int) := by omega
      simp only at cl
      clear hI hl rl hlp ha
      have fN := k_rowF (unhide S1).rP i
      go_wp2_with fail
      go_loopw [6] (fun t wr => ∃ (j : Nat) (ls : List (List Nat)) (ads : List (Option Addr × Nat)), t = .int .i64 (j : Int) ∧ j ≤ l.length ∧ Hd (RpI w1 wr w1.heap.size N i j l R ls ads)) (fun t _ => l.length - (intOf t).toNat)
      case atStart => exact ⟨0, _, _, rfl, by omega, HI0⟩
      case round =>
        clear HI0
        obtain ⟨j, ls, ads, rfl, hj, hI⟩ := hrel
        have hX := (unhide hI).S.ext
        have cl' := hX.cell cl
        by_cases hlj : j < l.length
        · obtain ⟨q, hq⟩ : ∃ q, l[j]? = some q := ⟨_, List.getElem?_eq_getElem hlj⟩
          obtain ⟨lb, lo, e1, _, cx⟩ := (unhide HRl).at (j := j) (x := (q : Int)) (by rw [List.getElem?_map, hq]; rfl)
          try simp only at e1
          subst e1
          have Cx := hide cx
          have Cl := hide cl
          have hqn : q < N.length := unhide HLp q (List.mem_of_getElem? hq)
          obtain ⟨o, ho⟩ : ∃ o, ls[q]? = some o := ⟨_, List.getElem?_eq_getElem (by rw [(unhide hI).len]; exact hqn)⟩
          have hob := (unhide hI).bd q o ho
          have heq := (unhide hI).eq
          have hdr : l.drop j = q :: l.drop (j + 1) := by
            rw [List.getElem?_eq_getElem hlj] at hq
            injection hq with hq
            rw [List.drop_eq_getElem_cons hlj, hq]
          rw [hdr, rPredL, List.getD_eq_getElem?_getD, ho] at heq
          simp only [Option.getD_some] at heq
          obtain ⟨a, ha, ca⟩ := (unhide hI).S.at ho
          have hId : RwS w1 wr.drew w1.heap.size ls ads := (unhide hI).S.on (Ext.drew (Ext.refl _))
          have HPush := hide (fun (w3 : World) (ob : Obj) (g' cap' : Nat) => hId.push (w3 := w3) (ob := ob) (g' := g') (cap' := cap') ho ha i)
          have HO := hide (fun ob => ((unhide hI).S.on (Ext.alloc _ ob)).own q o a ho ha)
          have HaP := hide ((unhide hI).S.aP q a ha)
          have HrP := hide (unhide hI).S.rP
          have HSl := hide (slC_at ls ads q o a ho ha)
          have HNx := hide (fun (W : World) (ads2 : List (Option Addr × Nat)) (hS : RwS w1 W w1.heap.size (ls.set q (o ++ [i])) ads2) => (show RpI w1 W w1.heap.size N i (j + 1) l R (ls.set q (o ++ [i])) ads2 from ⟨hS, by rw [List.length_set]; exact (unhide hI).len, heq, fun t o2 h2 => by
            rw [List.getElem?_set] at h2
            split at h2
            · split at h2
              · injection h2 with h2
                subst h2
                simp only [List.length_append, List.length_cons, List.length_nil]
                omega
              · cases h2
            · have := (unhide hI).bd t o2 h2
              omega⟩))
          clear heq hdr hq hI ha ho ca hId cx
          go_wp2_with fail
          refine preds_abs (W0 := w1) (Pn := Pn) (P := w1.heap.size) (n := N.length) (i := i) (j := j) (q := q) (lb := lb) (lo := lo) (m := l.length) (lc := ac) (aa := a.1) (ol := o.length) (ac := a.2) (xs := ns o) rfl (fun A hA => ?_) ?_
          · subst hA
            exact regionP _ w1 wr Pn w1.heap.size N.length i j q lb lo l.length ac a.1 o.length a.2 (ns o) rfl rfl rfl rfl rfl hX hlt hlj hqn hgn hll (by omega) (unhide Cl) (unhide Cx) (Nat.le_refl _) (unhide HaP) _ (unhide HrP) (unhide HSl) (unhide HO)
          intro u w3 g' cap' D
          have S3 := hide (unhide HPush w3 _ g' cap' D.gr D.own D.wh)
          clear D
          rename_i hKK
          refine hKK _ _ ?_
          clear hKK
          simp only [setAll, Nat.reduceAdd, List.setIfInBounds_toArray, List.set_cons_zero, List.set_cons_succ]
          go_wp2_with fail
          go_roundw
          case rel => exact ⟨j + 1, _, _, by go_num, by omega, unhide HNx _ _ (unhide S3)⟩
          case measure => simp [intOf]; omega
        · obtain rfl : j = l.length := by omega
          have HI' : Hd (RpO w1 wr w1.heap.size N (i + 1) R ls ads) := by
            refine ⟨(unhide hI).S, (unhide hI).len, ?_, fun q o ho => ?_⟩
            · have := (unhide hI).eq
              rw [List.drop_length, rPredL] at this
              exact this
            · have := (unhide hI).bd q o ho
              omega
          go_wp2_with fail
          go_roundw
          case rel => exact ⟨i + 1, ls, ads, by go_num, by omega, HI'⟩
          case measure => simp [intOf]; omega
    · obtain rfl : i = N.length := by omega
      have HQ : Hd (ls = R) := by
        have := (unhide hI).eq
        rw [List.drop_length, rPredF] at this
        exact this
      have hlen := (unhide hI).len
      go_wp2_with fail
      go_ret
      refine ⟨w1, w1.heap.size, ads, ?_, (unhide S1).ext, by rw [← unhide HQ]; exact (unhide hI).S⟩
      rw [← unhide HQ, hlen]
      rfl

end Go.Proofs.Ytmhcecofknemkaa
