/- What leads to each point; the points of which one is the immediate dominator. -/
import Derived.Test.YtdnhekgbfhlhoaaGrPr
set_option linter.unusedSimpArgs false
set_option linter.unusedVariables false
set_option maxRecDepth 10000
namespace Go.Proofs.Ytdnhekgbfhlhoaa
open Go.RowKit

/-- What a call that makes lists answers. -/
def PredE (w : World) (ls : List (List Nat)) (e : Ending) (w' : World) : Prop := ∃ P ads, e = .returned (.slice (some ⟨P, 0, none⟩) ls.length ls.length) ∧ RwS w w' P ls ads

theorem gPredL_len (n p : Nat) : ∀ (l : List Int) (ps : List (List Nat)), (gPredL n p l ps).length = ps.length
  | [], ps => rfl
  | x :: r, ps => by rw [gPredL, gPredL_len n p r]; split <;> simp
theorem gPredF_len (n : Nat) : ∀ (g : List (List Int)) (p : Nat) (ps : List (List Nat)), (gPredF n g p ps).length = ps.length
  | [], p, ps => rfl
  | l :: r, p, ps => by rw [gPredF, gPredF_len n r, gPredL_len]
theorem gPreds_len (g : List (List Int)) : (gPreds g).length = g.length := by unfold gPreds; rw [gPredF_len]; simp

/-- The lists so far, in a list's middle. -/
structure PrI (w wr : World) (P : Nat) (ads : List (Option Addr × Nat)) (n p : Nat) (l : List Int) (j : Nat) (ps F : List (List Nat)) : Prop where
  S : RwS w wr P ps ads
  len : ps.length = n
  bd : ∀ l ∈ ps, l.length ≤ p * 1000000 + j
  eq : gPredL n p (l.drop j) ps = F

set_option maxHeartbeats 4000000 in
theorem preds_w (ga : Option Addr) (gc : Nat) (g : List (List Int)) (w : World) (hg : RepG w (In w) ga g) (hf : Few g) :
    Calls Try.prog 35 #[.slice ga g.length gc] w (PredE w (gPreds g)) := by
  have hgn : g.length ≤ 1000000 := hf.1
  have HIP := hide (fun (W : World) (z : Int) => isPoint_w ga g.length gc z W hgn)
  have HEw := hide (fun (W : World) (l : List Nat) (a : Option Addr) (c p : Nat) => endsWith_w l a c p W)
  have hmk := make_lists g.length hgn w
  have HP0 := hide (RwS.new w g.length)
  have HG := hide hg
  have HF := hide hf
  obtain ⟨i0, hi, hz0, hz1, hz2⟩ := k_info
  have HI := hide hi
  have Z0 := hide hz0
  have Z1 := hide hz1
  have Z2 := hide hz2
  have HQ : Hd (∀ ps, ps = gPreds g → ps.length = g.length) := fun ps e => by rw [e]; exact gPreds_len g
  clear hi hz0 hz1 hz2 hg hf
  have HRf : Hd (∀ (ob : Obj), (Obj.cells (List.replicate g.length (Value.slice none 0 0)).toArray 30) = ob → RwS w (w.alloc ob) w.heap.size (List.replicate g.length []) (List.replicate g.length (none, 0))) := fun ob e => by rw [← e]; exact unhide HP0
  generalize hob : (Obj.cells (List.replicate g.length (Value.slice none 0 0)).toArray 30) = ob at hmk
  have HP0 := hide (unhide HRf ob hob)
  clear hob HRf
  go_enter Try.func35, Try.ntmps35
  go_wp2_with fail
  go_loopw [13] (fun t wr => ∃ (p : Nat) (ps : List (List Nat)) (ads : List (Option Addr × Nat)), t = .int .i64 p ∧ p ≤ g.length ∧ Hd (RwS w wr w.heap.size ps ads) ∧ Hd (ps.length = g.length) ∧ Hd (∀ l ∈ ps, l.length ≤ p * 1000000) ∧ Hd (gPredF g.length (g.drop p) p ps = gPreds g)) (fun t _ => g.length - (intOf t).toNat)
  case atStart => exact ⟨0, _, _, rfl, by omega, HP0, by simp [Hd], by intro l hl; obtain rfl := List.eq_of_mem_replicate hl; simp, by unfold Hd gPreds; simp⟩
  case round =>
    clear HP0 hmk
    obtain ⟨p, ps, ads, rfl, hp, hS, hln, hbd, hq⟩ := hrel
    by_cases hlt : p < g.length
    · obtain ⟨l, hl⟩ : ∃ l, g[p]? = some l := ⟨_, List.getElem?_eq_getElem hlt⟩
      obtain ⟨gb, go, la, lc, rfl, _, hc, hrl⟩ := (unhide HG).at hl
      have hc := (unhide hS).ext.cell hc
      have hll : l.length ≤ 1000000 := (unhide HF).2 l (List.mem_of_getElem? hl)
      have HRl := hide hrl
      obtain ⟨psF, hpsF⟩ : ∃ F, F = gPredL g.length p l ps := ⟨_, rfl⟩
      have HFq : Hd (gPredF g.length (g.drop (p + 1)) (p + 1) psF = gPreds g) := by
        have h0 := unhide hq
        rw [List.getElem?_eq_getElem hlt] at hl
        injection hl with hl
        rw [List.drop_eq_getElem_cons hlt, gPredF, hl] at h0
        rw [hpsF]
        exact h0
      have HI0 : Hd (PrI w wr w.heap.size ads g.length p l 0 ps psF) := ⟨unhide hS, unhide hln, fun l2 hl2 => Nat.le_trans (unhide hbd l2 hl2) (Nat.le_add_right _ _), by rw [List.drop_zero]; exact hpsF.symm⟩
      clear hl hrl hpsF hS hln hbd hq
      go_wp2_with fail
      go_loopw [20] (fun t wr => ∃ (j : Nat) (ps : List (List Nat)) (ads : List (Option Addr × Nat)), t = .int .i64 j ∧ j ≤ l.length ∧ Hd (PrI w wr w.heap.size ads g.length p l j ps psF)) (fun t _ => l.length - (intOf t).toNat)
      case atStart => exact ⟨0, _, _, rfl, by omega, HI0⟩
      case round =>
        clear HI0 hc
        obtain ⟨j, ps, ads, rfl, hj, hI⟩ := hrel
        by_cases hlj : j < l.length
        · obtain ⟨x, hx⟩ : ∃ x, l[j]? = some x := ⟨_, List.getElem?_eq_getElem hlj⟩
          obtain ⟨lb, lo, rfl, _, hcx⟩ := (unhide HRl).at hx
          have hcx := (unhide hI).S.ext.cell hcx
          have heq : Hd (gPredL g.length p (l.drop (j + 1)) (if gPt g.length x && !gEnds (ps.getD x.toNat []) p then ps.set x.toNat (ps.getD x.toNat [] ++ [p]) else ps) = psF) := by
            have h0 := (unhide hI).eq
            rw [List.getElem?_eq_getElem hlj] at hx
            injection hx with hx
            rw [List.drop_eq_getElem_cons hlj, gPredL, hx] at h0
            exact h0
          clear hx
          have HIPx := hide (fun W => unhide HIP W x)
          cases hpt : gPt g.length x with
          | false =>
            rw [hpt] at heq HIPx
            have HI' : Hd (PrI w wr w.heap.size ads g.length p l (j + 1) ps psF) := ⟨(unhide hI).S, (unhide hI).len, fun l hl => by have := (unhide hI).bd l hl; omega, by simpa [Hd] using heq⟩
            clear hpt heq
            go_wp2_with (go_at_call 48; refine Calls.mono (unhide HIPx _) ?_; rintro e w1 ⟨rfl, hw⟩; rw [hw]; clear hw w1)
            go_roundw
            case rel => exact ⟨j + 1, ps, ads, by go_num, by omega, HI'⟩
            case measure => simp [intOf]; omega
          | true =>
            obtain ⟨q, rfl⟩ : ∃ q : Nat, x = (q : Int) := by
              unfold gPt at hpt
              simp at hpt
              exact ⟨x.toNat, by omega⟩
            have hqn : q < g.length := by
              unfold gPt at hpt
              simp at hpt
              omega
            rw [hpt] at heq HIPx
            obtain ⟨lq, hlq⟩ : ∃ lq, ps[q]? = some lq := ⟨_, List.getElem?_eq_getElem (by rw [(unhide hI).len]; exact hqn)⟩
            have hgd : ps.getD q [] = lq := by simp [List.getD, hlq]
            obtain ⟨a, ha, hca⟩ := (unhide hI).S.at hlq
            have hlb := (unhide hI).bd lq (List.mem_of_getElem? hlq)
            have hbig : lq.length ≤ 1000001000000 := by omega
            have HRow := hide ((unhide hI).S.row hlq ha)
            have HEwq := hide (unhide HEw wr lq a.1 a.2 p (unhide HRow) (by omega))
            simp only [Int.toNat_natCast, hgd, Bool.true_and] at heq
            clear hpt hgd
            cases hen : gEnds lq p with
            | true =>
              rw [hen] at heq HEwq
              have HI' : Hd (PrI w wr w.heap.size ads g.length p l (j + 1) ps psF) := ⟨(unhide hI).S, (unhide hI).len, fun l hl => by have := (unhide hI).bd l hl; omega, by simpa [Hd] using heq⟩
              clear hen heq hlq ha
              go_wp2_with (first
                | (go_at_call 48; refine Calls.mono (unhide HIPx _) ?_; rintro e w1 ⟨rfl, hw⟩; rw [hw]; clear hw w1)
                | (go_at_call 49; refine Calls.mono (unhide HEwq) ?_; rintro e w1 ⟨rfl, hw⟩; rw [hw]; clear hw w1))
              go_roundw
              case rel => exact ⟨j + 1, ps, ads, by go_num, by omega, HI'⟩
              case measure => simp [intOf]; omega
            | false =>
              rw [hen] at heq HEwq
              have HPush := hide (fun (w3 : World) (ob : Obj) (g' cap' : Nat) => (unhide hI).S.push (w3 := w3) (ob := ob) (g' := g') (cap' := cap') hlq ha p)
              have HO : Hd (∀ ob, (wr.alloc ob).ownsRow w.heap.size 3 1 (.slice a.1 lq.length a.2) lq.length (ns lq)) := fun ob => ((unhide hI).S.on (Ext.alloc _ ob)).own q lq a hlq ha
              have HLe := hide (unhide hI).S.ext.size
              have HrP := hide (fun (w3 : World) (ob : Obj) (h : (wr.alloc ob).grownBy w3 (Value.slice a.1 lq.length a.2).ownBlock) => Row.grown ((unhide hI).S.on (Ext.alloc _ ob)).rP h (fun e => (unhide hI).S.aP q a ha (by rw [obk_eq] at e; exact e.symm)))
              have HEq2 : Hd (gPredL g.length p (l.drop (j + 1)) (ps.set q (lq ++ [p])) = psF) := by simpa [Hd] using heq
              have HSl := hide (slC_at ps ads q lq a hlq ha)
              have HBd := hide (unhide hI).bd
              have HLn := hide (unhide hI).len
              have Hlm := hide (List.mem_of_getElem? hlq)
              clear hen heq hlq ha hI
              go_wp2_with (first
                | (go_at_call 48; refine Calls.mono (unhide HIPx _) ?_; rintro e w1 ⟨rfl, hw⟩; rw [hw]; clear hw w1)
                | (go_at_call 49; refine Calls.mono (unhide HEwq) ?_; rintro e w1 ⟨rfl, hw⟩; rw [hw]; clear hw w1)
                | (at_builtin; refine kapp_list rfl (.tmp 41) (.tmp 43) 30 rfl w.heap.size 3 i0 (.int .i64 0) 1 8 Try.underlying30 (unhide HI) (unhide Z0) (unhide Z1) (unhide Z2) rfl (by decide) a.1 lq.length a.2 _ rfl (unhide HO _) ⟨wr.heap.size, 0, none⟩ 1 1 [.int .i64 (p : Int)] rfl (by decide) rfl (k_new _ _ rfl _ _) (k_one_int _) ?c1 ?c2 ?c3 ?_))
              case c1 => unfold maxLen; omega
              case c2 => omega
              case c3 => have := unhide HLe; have := (Ext.alloc wr (.cells #[.int .i64 (p : Int)] 3)).size; omega
              intro g' cap' w3 ho hgr hw
              have S3 := hide (unhide HPush w3 _ g' cap' hgr ho (hw.imp id (fun e => by have := e; omega)))
              have hrP := unhide HrP w3 _ hgr
              have fz := k_rowF hrP q
              have dq : w3.cell? ⟨w.heap.size, q, none⟩ = some (.slice a.1 lq.length a.2) := hrP.cell q (unhide HSl)
              clear ho hgr hw hrP
              go_wp2_with fail
              go_roundw
              case rel =>
                refine ⟨j + 1, _, _, by go_num, by omega, ⟨unhide S3, by rw [List.length_set]; exact unhide HLn, fun l2 hl2 => ?_, unhide HEq2⟩⟩
                rcases List.mem_or_eq_of_mem_set hl2 with h | h
                · have := unhide HBd l2 h; omega
                · subst h
                  have := unhide HBd lq (unhide Hlm)
                  rw [List.length_append]
                  simp only [List.length_cons, List.length_nil]
                  omega
              case measure => simp [intOf]; omega
        · obtain rfl : j = l.length := by omega
          have HE2 : Hd (ps = psF) := by
            have := (unhide hI).eq
            rw [List.drop_length, gPredL] at this
            exact this
          go_wp2_with fail
          go_roundw
          case rel => exact ⟨p + 1, ps, ads, by go_num, by omega, (unhide hI).S, (unhide hI).len, fun l2 hl2 => by have := (unhide hI).bd l2 hl2; omega, by unfold Hd; rw [unhide HE2]; exact unhide HFq⟩
          case measure => simp [intOf]; omega
    · obtain rfl : p = g.length := by omega
      have HE2 : Hd (ps = gPreds g) := by
        have := unhide hq
        rw [List.drop_length, gPredF] at this
        exact this
      go_wp2_with fail
      go_ret
      refine ⟨w.heap.size, ads, ?_, by rw [← unhide HE2]; exact unhide hS⟩
      rw [gPreds_len]
      rfl

theorem gKid_len : ∀ (d : List (Option Nat)) (i : Nat) (ks F : List (List Nat)), gKid d i ks = some F → F.length = ks.length
  | [], i, ks, F, h => by rw [gKid] at h; injection h with h; rw [h]
  | none :: r, i, ks, F, h => by rw [gKid] at h; exact gKid_len r _ _ _ h
  | some a :: r, i, ks, F, h => by
    rw [gKid] at h
    split at h
    · cases h
    · have := gKid_len r _ _ _ h
      rw [List.length_set] at this
      exact this

end Go.Proofs.Ytdnhekgbfhlhoaa
