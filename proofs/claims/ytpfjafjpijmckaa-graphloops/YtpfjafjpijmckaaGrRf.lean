/- The document's own graph without doubles: has, Norm; few. -/
import Derived.Test.YtpfjafjpijmckaaGrTh
set_option linter.unusedSimpArgs false
set_option linter.unusedVariables false
set_option maxRecDepth 10000
namespace Go.Proofs.Ytpfjafjpijmckaa
open Go.RowKit

def gFew (g : List (List Int)) : Bool := decide (g.length ≤ 40) && g.all (fun l => decide (l.length ≤ 60))
def gHas (x : Int) : List Nat → Bool
  | [] => false
  | y :: r => if (y : Int) = x then true else gHas x r
def gNormL (n : Nat) : List Int → List Nat → List Nat
  | [], o => o
  | x :: r, o => gNormL n r (if gPt n x && !gHas x o then o ++ [x.toNat] else o)
def gNorm (g : List (List Int)) : List (List Nat) := g.map (fun l => gNormL g.length l [])

set_option maxHeartbeats 2000000 in
theorem few_w (ga : Option Addr) (gc : Nat) (g : List (List Int)) (w : World) (hg : RepG w (In w) ga g) (hl : g.length ≤ 9223372036854775807) (hb : ∀ l ∈ g, l.length ≤ 9223372036854775807) :
    Calls Try.prog 16 #[.slice ga g.length gc] w fun e w' => e = .returned (.bool (gFew g)) ∧ w' = w := by
  have HG := hide hg
  have HB := hide hb
  clear hg hb
  by_cases h40 : g.length ≤ 40
  · obtain ⟨R, hR⟩ : ∃ R, R = gFew g := ⟨_, rfl⟩
    have HR : Hd ((g.drop 0).all (fun l => decide (l.length ≤ 60)) = R) := by
      unfold Hd
      rw [hR, List.drop_zero]
      unfold gFew
      rw [decide_eq_true h40, Bool.true_and]
    rw [← hR]
    clear hR
    have h40' : ¬ (40 : Int) < (g.length : Int) := by omega
    go_enter Try.func16, Try.ntmps16
    go_wp2_with fail
    go_loopw [3] (fun t wr => ∃ (i : Nat), t = .int .i64 (i : Int) ∧ i ≤ g.length ∧ Hd ((g.drop i).all (fun l => decide (l.length ≤ 60)) = R) ∧ Hd (wr = w)) (fun t _ => g.length - (intOf t).toNat)
    case atStart => exact ⟨0, rfl, by omega, HR, rfl⟩
    case round =>
      clear HR
      obtain ⟨i, rfl, hi, hq, hw⟩ := hrel
      rw [unhide hw]
      by_cases hlt : i < g.length
      · obtain ⟨l, hl⟩ : ∃ l, g[i]? = some l := ⟨_, List.getElem?_eq_getElem hlt⟩
        obtain ⟨gb, go, ia, ic, rfl, _, cl, _⟩ := (unhide HG).at hl
        have hlb := unhide HB l (List.mem_of_getElem? hl)
        have hqq := unhide hq
        rw [List.getElem?_eq_getElem hlt] at hl
        injection hl with hl
        rw [List.drop_eq_getElem_cons hlt, hl, List.all_cons] at hqq
        by_cases h60 : l.length ≤ 60
        · rw [decide_eq_true h60, Bool.true_and] at hqq
          have HQ := hide hqq
          have h60' : ¬ (60 : Int) < (l.length : Int) := by omega
          clear hqq hl
          go_wp2_with fail
          go_roundw
          case rel => exact ⟨i + 1, by go_num, by omega, HQ, by first | exact rfl | (unfold Hd; trivial)⟩
          case measure => simp [intOf]; omega
        · rw [decide_eq_false h60, Bool.false_and] at hqq
          have HQ := hide hqq
          have h60' : (60 : Int) < (l.length : Int) := by omega
          clear hqq hl
          go_wp2_with fail
          go_ret
          rw [← unhide HQ]
          exact ⟨rfl, rfl⟩
      · obtain rfl : i = g.length := by omega
        have HQ : Hd (true = R) := by
          have := unhide hq
          rw [List.drop_length, List.all_nil] at this
          exact this
        go_wp2_with fail
        go_ret
        rw [← unhide HQ]
        exact ⟨rfl, rfl⟩
  · have e : gFew g = false := by unfold gFew; rw [decide_eq_false h40, Bool.false_and]
    rw [e]
    have h40' : (40 : Int) < (g.length : Int) := by omega
    go_enter Try.func16, Try.ntmps16
    go_wp2_with fail
    go_ret
    exact ⟨rfl, rfl⟩

set_option maxHeartbeats 2000000 in
theorem has_w (l : List Nat) (a : Option Addr) (c : Nat) (x : Int) (w : World) (hl : l.length ≤ 1000000) (h : RepI w (In w) a (l.map (fun (x : Nat) => (x : Int)))) :
    Calls Try.prog 41 #[.slice a l.length c, .int .i64 x] w fun e w' => e = .returned (.bool (gHas x l)) ∧ w' = w := by
  have HR := hide h
  clear h
  obtain ⟨R, hR⟩ : ∃ R, R = gHas x l := ⟨_, rfl⟩
  rw [← hR]
  have HQ0 : Hd (gHas x (l.drop 0) = R) := by rw [List.drop_zero]; exact hR.symm
  clear hR
  go_enter Try.func41, Try.ntmps41
  go_wp2_with fail
  go_loopw [5] (fun t wr => ∃ (i : Nat), t = .int .i64 (i : Int) ∧ i ≤ l.length ∧ Hd (gHas x (l.drop i) = R) ∧ Hd (wr = w)) (fun t _ => l.length - (intOf t).toNat)
  case atStart => exact ⟨0, rfl, by omega, HQ0, rfl⟩
  case round =>
    clear HQ0
    obtain ⟨i, rfl, hi, hq, hw⟩ := hrel
    rw [unhide hw]
    by_cases hlt : i < l.length
    · obtain ⟨y, hy⟩ : ∃ y, l[i]? = some y := ⟨_, List.getElem?_eq_getElem hlt⟩
      obtain ⟨lb, lo, rfl, _, cy⟩ := (unhide HR).at (j := i) (x := (y : Int)) (by rw [List.getElem?_map, hy]; rfl)
      have hqq := unhide hq
      rw [List.getElem?_eq_getElem hlt] at hy
      injection hy with hy
      rw [List.drop_eq_getElem_cons hlt, hy, gHas] at hqq
      by_cases hyx : (y : Int) = x
      · rw [if_pos hyx] at hqq
        have hb : ((y : Int) == x) = true := by simpa using hyx
        have HQ := hide hqq
        clear hqq hy hyx
        go_wp2_with fail
        go_ret
        rw [← unhide HQ]
        exact ⟨rfl, rfl⟩
      · rw [if_neg hyx] at hqq
        have hb : ((y : Int) == x) = false := by rw [beq_eq_false_iff_ne]; exact hyx
        have HQ := hide hqq
        clear hqq hy
        go_wp2_with fail
        go_roundw
        case rel => exact ⟨i + 1, by go_num, by omega, HQ, by first | exact rfl | (unfold Hd; trivial)⟩
        case measure => simp [intOf]; omega
    · obtain rfl : i = l.length := by omega
      have HQ : Hd (false = R) := by
        have := unhide hq
        rw [List.drop_length, gHas] at this
        exact this
      go_wp2_with fail
      go_ret
      rw [← unhide HQ]
      exact ⟨rfl, rfl⟩

/-- In the i-th list, behind its first j. -/
structure NoI (w wr : World) (P : Nat) (g : List (List Int)) (i j : Nat) (l : List Int) (o : List Nat) (ls : List (List Nat)) (ads : List (Option Addr × Nat)) : Prop where
  S : RwS w wr P ls ads
  len : ls.length = g.length
  dn : ∀ t, t < i → ls[t]? = (g[t]?).map (fun l => gNormL g.length l [])
  at' : ls[i]? = some o
  up : ∀ t, i < t → t < g.length → ls[t]? = some []
  eq : gNormL g.length (l.drop j) o = gNormL g.length l []
  ol : o.length ≤ j
/-- Between two lists. -/
structure NoO (w wr : World) (P : Nat) (g : List (List Int)) (i : Nat) (ls : List (List Nat)) (ads : List (Option Addr × Nat)) : Prop where
  S : RwS w wr P ls ads
  len : ls.length = g.length
  dn : ∀ t, t < i → ls[t]? = (g[t]?).map (fun l => gNormL g.length l [])
  up : ∀ t, i ≤ t → t < g.length → ls[t]? = some []

set_option maxHeartbeats 4000000 in
theorem norm_w (ga : Option Addr) (gc : Nat) (g : List (List Int)) (w : World) (hg : RepG w (In w) ga g) (hf : Few g) :
    Calls Try.prog 38 #[.slice ga g.length gc] w (PredE w (gNorm g)) := by
  have hgn : g.length ≤ 1000000 := hf.1
  have HHs := hide (fun (W : World) (l : List Nat) (a : Option Addr) (c : Nat) (x : Int) (h1 : l.length ≤ 1000000) (h2 : RepI W (In W) a (l.map (fun (x : Nat) => (x : Int)))) => has_w l a c x W h1 h2)
  have hmk := make_lists g.length hgn w
  have HG := hide hg
  have HF := hide hf
  obtain ⟨i0, hi, hz0, hz1, hz2⟩ := k_info
  have HI := hide hi
  have Z0 := hide hz0
  have Z1 := hide hz1
  have Z2 := hide hz2
  clear hi hz0 hz1 hz2 hg hf
  have HRf : Hd (∀ (ob : Obj), (Obj.cells (List.replicate g.length (Value.slice none 0 0)).toArray 22) = ob → NoO w (w.alloc ob) w.heap.size g 0 (List.replicate g.length []) (List.replicate g.length (none, 0))) := fun ob e => by
    rw [← e]
    exact ⟨RwS.new w g.length, by simp, fun t ht => by omega, fun t _ ht => by rw [List.getElem?_replicate, if_pos ht]⟩
  generalize hob : (Obj.cells (List.replicate g.length (Value.slice none 0 0)).toArray 22) = ob at hmk
  have HP0 := hide (unhide HRf ob hob)
  clear hob HRf
  go_enter Try.func38, Try.ntmps38
  go_wp2_with fail
  go_loopw [4] (fun t wr => ∃ (i : Nat) (ls : List (List Nat)) (ads : List (Option Addr × Nat)), t = .int .i64 (i : Int) ∧ i ≤ g.length ∧ Hd (NoO w wr w.heap.size g i ls ads)) (fun t _ => g.length - (intOf t).toNat)
  case atStart => exact ⟨0, _, _, rfl, by omega, HP0⟩
  case round =>
    clear HP0 hmk
    obtain ⟨i, ls, ads, rfl, hi, hI⟩ := hrel
    by_cases hlt : i < g.length
    · obtain ⟨l, hl⟩ : ∃ l, g[i]? = some l := ⟨_, List.getElem?_eq_getElem hlt⟩
      obtain ⟨gb, go, ia, ic, rfl, _, cl, rl⟩ := (unhide HG).at hl
      have hll : l.length ≤ 1000000 := (unhide HF).2 l (List.mem_of_getElem? hl)
      have HI0 : Hd (NoI w wr w.heap.size g i 0 l [] ls ads) := ⟨(unhide hI).S, (unhide hI).len, (unhide hI).dn, (unhide hI).up i (Nat.le_refl _) hlt, fun t h1 h2 => (unhide hI).up t (by omega) h2, by rw [List.drop_zero], by simp⟩
      have HL := hide hl
      have HRl := hide rl
      have hlt2 : (i : Int) < (g.length : Int) := by omega
      clear hI hl rl
      go_wp2_with fail
      go_loopw [5] (fun t wr => ∃ (j : Nat) (o : List Nat) (ls : List (List Nat)) (ads : List (Option Addr × Nat)), t = .int .i64 (j : Int) ∧ j ≤ l.length ∧ Hd (NoI w wr w.heap.size g i j l o ls ads)) (fun t _ => l.length - (intOf t).toNat)
      case atStart => exact ⟨0, _, _, _, rfl, by omega, HI0⟩
      case round =>
        clear HI0
        obtain ⟨j, o, ls, ads, rfl, hj, hI⟩ := hrel
        have hX := (unhide hI).S.ext
        have cl' := hX.cell cl
        by_cases hlj : j < l.length
        · obtain ⟨x, hx⟩ : ∃ x, l[j]? = some x := ⟨_, List.getElem?_eq_getElem hlj⟩
          obtain ⟨xb, xo, rfl, _, cx⟩ := (unhide HRl).at hx
          have cx := hX.cell cx
          have heq := (unhide hI).eq
          have hdr : l.drop j = x :: l.drop (j + 1) := by
            rw [List.getElem?_eq_getElem hlj] at hx
            injection hx with hx
            rw [List.drop_eq_getElem_cons hlj, hx]
          rw [hdr, gNormL] at heq
          obtain ⟨a, ha, ca⟩ := (unhide hI).S.at (unhide hI).at'
          have hol := (unhide hI).ol
          have HCall := hide (unhide HHs wr o a.1 a.2 x (by omega) ((unhide hI).S.row (unhide hI).at' ha))
          clear hdr hx
          by_cases hx0 : x < 0
          · have hpt : gPt g.length x = false := by unfold gPt; rw [decide_eq_false (by omega), Bool.false_and]
            rw [hpt] at heq
            have hx1 : decide (x < 0) = true := by simpa using hx0
            have HI' : Hd (NoI w wr w.heap.size g i (j + 1) l o ls ads) := ⟨(unhide hI).S, (unhide hI).len, (unhide hI).dn, (unhide hI).at', (unhide hI).up, by simpa using heq, by omega⟩
            clear heq hpt
            go_wp2_with fail
            go_roundw
            case rel => exact ⟨j + 1, o, ls, ads, by go_num, by omega, HI'⟩
            case measure => simp [intOf]; omega
          · by_cases hx2 : (g.length : Int) ≤ x
            · have hpt : gPt g.length x = false := by unfold gPt; rw [decide_eq_false (by omega : ¬ x < (g.length : Int)), Bool.and_false]
              rw [hpt] at heq
              have HI' : Hd (NoI w wr w.heap.size g i (j + 1) l o ls ads) := ⟨(unhide hI).S, (unhide hI).len, (unhide hI).dn, (unhide hI).at', (unhide hI).up, by simpa using heq, by omega⟩
              clear heq hpt
              go_wp2_with fail
              go_roundw
              case rel => exact ⟨j + 1, o, ls, ads, by go_num, by omega, HI'⟩
              case measure => simp [intOf]; omega
            · have hpt : gPt g.length x = true := by unfold gPt; rw [decide_eq_true (by omega : 0 ≤ x), decide_eq_true (by omega : x < (g.length : Int))]; rfl
              rw [hpt] at heq
              obtain ⟨q, rfl⟩ := Int.eq_ofNat_of_zero_le (by omega : 0 ≤ x)
              cases hhs : gHas (q : Int) o with
              | true =>
                rw [hhs] at heq HCall
                have HI' : Hd (NoI w wr w.heap.size g i (j + 1) l o ls ads) := ⟨(unhide hI).S, (unhide hI).len, (unhide hI).dn, (unhide hI).at', (unhide hI).up, by simpa using heq, by omega⟩
                clear heq hpt hhs
                go_wp2_with (go_at_call 41; refine Calls.mono (unhide HCall) ?_; rintro e w1 ⟨rfl, hw⟩; rw [hw]; clear hw w1)
                go_roundw
                case rel => exact ⟨j + 1, o, ls, ads, by go_num, by omega, HI'⟩
                case measure => simp [intOf]; omega
              | false =>
                rw [hhs] at heq HCall
                have HPush := hide (fun (w3 : World) (ob : Obj) (g' cap' : Nat) => (unhide hI).S.push (w3 := w3) (ob := ob) (g' := g') (cap' := cap') (unhide hI).at' ha q)
                have HO : Hd (∀ ob, (wr.alloc ob).ownsRow w.heap.size 3 1 (.slice a.1 o.length a.2) o.length (ns o)) := fun ob => ((unhide hI).S.on (Ext.alloc _ ob)).own i o a (unhide hI).at' ha
                have HLe := hide (unhide hI).S.ext.size
                have HrP := hide (fun (w3 : World) (ob : Obj) (h : (wr.alloc ob).grownBy w3 (Value.slice a.1 o.length a.2).ownBlock) => Row.grown ((unhide hI).S.on (Ext.alloc _ ob)).rP h (fun e => (unhide hI).S.aP i a ha (by rw [obk_eq] at e; exact e.symm)))
                have HSl := hide (slC_at ls ads i o a (unhide hI).at' ha)
                have HNx := hide (fun (W : World) (ads2 : List (Option Addr × Nat)) (hS : RwS w W w.heap.size (ls.set i (o ++ [q])) ads2) => (show NoI w W w.heap.size g i (j + 1) l (o ++ [q]) (ls.set i (o ++ [q])) ads2 from ⟨hS, by rw [List.length_set]; exact (unhide hI).len, fun t ht => by rw [List.getElem?_set, if_neg (by omega)]; exact (unhide hI).dn t ht, by rw [List.getElem?_set_self (by rw [(unhide hI).len]; exact hlt)], fun t h1 h2 => by rw [List.getElem?_set, if_neg (by omega)]; exact (unhide hI).up t h1 h2, by simpa using heq, by simp; omega⟩))
                clear heq hpt hhs hI ha
                go_wp2_with (first
                  | (go_at_call 41; refine Calls.mono (unhide HCall) ?_; rintro e w1 ⟨rfl, hw⟩; rw [hw]; clear hw w1)
                  | (at_builtin; refine kapp_list rfl (.tmp 53) (.tmp 55) 22 rfl w.heap.size 3 i0 (.int .i64 0) 1 8 Try.underlying22 (unhide HI) (unhide Z0) (unhide Z1) (unhide Z2) rfl (by decide) a.1 o.length a.2 _ rfl (unhide HO _) ⟨wr.heap.size, 0, none⟩ 1 1 [.int .i64 (q : Int)] rfl (by decide) rfl (k_new _ _ rfl _ _) (k_one_int _) ?c1 ?c2 ?c3 ?_))
                case c1 => unfold maxLen; omega
                case c2 => omega
                case c3 => have := unhide HLe; have := (Ext.alloc wr (.cells #[.int .i64 (q : Int)] 3)).size; omega
                intro g' cap' w3 ho hgr hw
                have S3 := hide (unhide HPush w3 _ g' cap' hgr ho (hw.imp id (fun e => by have := e; omega)))
                have hrP := unhide HrP w3 _ hgr
                have fz := k_rowF hrP i
                have dq : w3.cell? ⟨w.heap.size, i, none⟩ = some (.slice a.1 o.length a.2) := hrP.cell i (unhide HSl)
                clear ho hgr hw hrP
                go_wp2_with fail
                go_roundw
                case rel => exact ⟨j + 1, _, _, _, by go_num, by omega, unhide HNx _ _ (unhide S3)⟩
                case measure => simp [intOf]; omega
        · obtain rfl : j = l.length := by omega
          have HI' : Hd (NoO w wr w.heap.size g (i + 1) ls ads) := by
            refine ⟨(unhide hI).S, (unhide hI).len, fun t ht => ?_, fun t h1 h2 => (unhide hI).up t (by omega) h2⟩
            by_cases e : t = i
            · subst e
              have := (unhide hI).eq
              rw [List.drop_length, gNormL] at this
              rw [(unhide hI).at', unhide HL, this]
              rfl
            · exact (unhide hI).dn t (by omega)
          go_wp2_with fail
          go_roundw
          case rel => exact ⟨i + 1, ls, ads, by go_num, by omega, HI'⟩
          case measure => simp [intOf]; omega
    · obtain rfl : i = g.length := by omega
      have HQ : Hd (ls = gNorm g) := by
        apply List.ext_getElem?
        intro t
        unfold gNorm
        rw [List.getElem?_map]
        by_cases ht : t < g.length
        · exact (unhide hI).dn t ht
        · rw [List.getElem?_eq_none (by rw [(unhide hI).len]; omega), List.getElem?_eq_none (by omega)]
          rfl
      go_wp2_with fail
      go_ret
      refine ⟨w.heap.size, ads, ?_, by rw [← unhide HQ]; exact (unhide hI).S⟩
      unfold gNorm
      rw [List.length_map]
      rfl

end Go.Proofs.Ytpfjafjpijmckaa
