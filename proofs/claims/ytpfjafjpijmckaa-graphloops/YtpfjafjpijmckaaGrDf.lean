/- The document's Over. -/
import Derived.Test.YtpfjafjpijmckaaGrGc
import Derived.Test.YtpfjafjpijmckaaGrDz
import Derived.Test.YtpfjafjpijmckaaGrCz
set_option linter.unusedSimpArgs false
set_option linter.unusedVariables false
set_option maxRecDepth 10000
namespace Go.Proofs.Ytpfjafjpijmckaa
open Go.RowKit

/-- A row under way. -/
structure OvI (wp wr : World) (n : Nat) (f : Nat → Bool) (On Rb : Nat) (wa : List Bool) (b : Nat) : Prop where
  ext : Ext wp wr
  bR : wp.heap.size ≤ Rb
  rR : Row wr Rb 4 (bsV ((List.range b).map f ++ List.replicate (n - b) false))
  rO : Row wr On 4 (bsV wa)
  ne : On ≠ Rb
theorem OvI.set {wp wr : World} {n : Nat} {f : Nat → Bool} {On Rb : Nat} {wa : List Bool} {b : Nat} (h : OvI wp wr n f On Rb wa b) (hb : b < n) (v : Bool) (hv : f b = v) : OvI wp (wr.setCell ⟨Rb, b, none⟩ (.bool v)) n f On Rb wa (b + 1) := by
  subst hv
  refine ⟨h.ext.set (p := ⟨Rb, b, none⟩) h.bR _, h.bR, ?_, h.rO.other h.ne _ _, h.ne⟩
  have := h.rR.set b (.bool (f b))
  rw [bs_set, sh_step _ _ _ hb] at this
  exact this
theorem row_repB {w : World} {b : Nat} {l : List Bool} (F : Nat → Prop) (h : Row w b 4 (bsV l)) (hf : F b) : RepB w F (some ⟨b, 0, none⟩) l := Or.inr ⟨b, 0, rfl, hf, fun j x hx => by rw [Nat.zero_add]; exact h.cell j (bs_at hx)⟩
theorem rOvR_len (n : Nat) (inn wa : List Bool) (a : Nat) : (rOvR n inn wa a).length = n := by simp [rOvR]

set_option maxHeartbeats 8000000 in
theorem over_w (ga : Option Addr) (gc : Nat) (g : List (List Int)) (w : World) (K D : Nat) (R : List Bool) (ws : List (List Bool)) (hg : RepG w (In w) ga g) (hf : Few g)
    (hD : ∀ l ∈ g, l.length ≤ D) (hD1 : D ≤ 1000000) (hKD : 1 + K * D ≤ 100000000) (hF : rFrom (gNorm g) 0 (-1) K = some R) (hRl : R.length = g.length) (hws : ∀ a : Nat, a < g.length → ∃ W, ws[a]? = some W ∧ rFrom (gNorm g) 0 (a : Int) K = some W ∧ W.length = g.length) :
    Calls Try.prog 24 #[.slice ga g.length gc] w fun e w' => ∃ oa oc, e = .returned (.slice oa g.length oc) ∧ RepGB w' (In w') oa (rOv g.length R ws) ∧ Ext w w' := by
  have hgn : g.length ≤ 1000000 := hf.1
  have H1 := hide (norm_w ga gc g w hg hf)
  have hnl := gNorm_len g
  have hn : (gNorm g).length ≤ 1000000 := by rw [hnl]; exact hgn
  have hbd := gNorm_bd g D hD
  obtain ⟨N, hN⟩ : ∃ N, N = gNorm g := ⟨_, rfl⟩
  rw [← hN] at H1 hn hbd hF hnl
  rw [← hN] at hws
  have H2 := hide (fun (W : World) (P : Nat) (bar : Int) (F : List Bool) (h : RepG W (In W) (some ⟨P, 0, none⟩) (gUpG N)) (hF : rFrom N 0 bar K = some F) => rfrom_w (some ⟨P, 0, none⟩) N.length N 0 bar W K D F h hn hbd hKD hD1 hF)
  have HF := hide hF
  have HWs := hide hws
  clear hg hf hD hF hN hbd hws
  generalize g.length = n at *
  subst hnl
  have hmk := make_bools N.length hgn
  obtain ⟨i1, hi, hz0, hz1, hz2⟩ := k_infoSB
  have HJ := hide hi
  have Y0 := hide hz0
  have Y1 := hide hz1
  have Y2 := hide hz2
  clear hi hz0 hz1 hz2
  obtain ⟨O, hO⟩ : ∃ O, O = rOv N.length R ws := ⟨_, rfl⟩
  have hOl : O.length = N.length := by rw [hO]; simp [rOv]
  have HOat : Hd (∀ (a : Nat) (W : List Bool), a < N.length → ws[a]? = some W → O[a]? = some (rOvR N.length R W a)) := fun a W ha hW => by
    rw [hO]
    unfold rOv
    rw [List.getElem?_map, List.getElem?_range ha, Option.map_some, List.getD_eq_getElem?_getD, hW]
    rfl
  rw [← hO]
  clear hO
  go_enter Try.func24, Try.ntmps24
  go_wp2_with (first
    | (go_at_call 38; refine Calls.mono (unhide H1) ?_; rintro e w1 ⟨Pn, adn, rfl, s1⟩; have S1 := hide s1; clear s1)
    | (go_at_call 39; refine Calls.mono (unhide H2 w1 Pn (-1) R (unhide S1).graph (unhide HF)) ?_; rintro e w2 ⟨On, rfl, b2, r2, x2⟩; have R2 := hide r2; have G2 := hide ((unhide S1).graph.ext x2); have X2 : Hd (Ext w w2) := (unhide S1).ext.trans x2; clear b2 r2 x2))
  clear S1 H1 HF
  go_loopw [5, 6] (fun t5 t6 wr => ∃ (a : Nat) (ads : List (Option Addr × Nat)) (oa : Option Addr) (oc : Nat), t5 = .slice oa a oc ∧ t6 = .int .i64 (a : Int) ∧ a ≤ N.length ∧ Hd (GbB w2 wr (O.take a) ads oa oc)) (fun _ t _ => N.length - (intOf t).toNat)
  case atStart => exact ⟨0, [], none, 0, rfl, rfl, by omega, ⟨Ext.refl w2, rfl, World.ownsRow_nil _ _ _ _, fun i l a h => by simp at h⟩⟩
  case round =>
    obtain ⟨a, ads, oa, oc, rfl, rfl, ha, hI⟩ := hrel
    have hgl : a ≤ N.length → (O.take a).length = a := fun h => by rw [List.length_take]; omega
    by_cases hlt : a < N.length
    · obtain ⟨W, hW1, hW2, hW3⟩ := unhide HWs a hlt
      have hX := (unhide hI).ext
      have HCall := hide (unhide H2 wr Pn (a : Int) W ((unhide G2).ext hX) hW2)
      have hOa := unhide HOat a W hlt hW1
      have HOa := hide hOa
      obtain ⟨ra, hra⟩ : ∃ ra, R[a]? = some ra := ⟨_, List.getElem?_eq_getElem (by omega)⟩
      have HRa := hide hra
      have hlt2 : (a : Int) < (N.length : Int) := by omega
      have hWl := hide hW3
      clear hW1 hW2 hOa hra hW3
      obtain ⟨wp, hwp⟩ : ∃ wp, wp = wr := ⟨_, rfl⟩
      subst hwp
      go_wp2_with (go_at_call 39; refine Calls.mono (unhide HCall) ?_; rintro e w4 ⟨Ow, rfl, b4, r4, x4⟩; rw [unhide hWl]; have hmk4 := hmk w4; have B4 := hide b4; have R4 := hide r4; have X4 := hide x4; clear b4 r4 x4)
      have HI0 : Hd (OvI wp (w4.alloc (.cells (bsV (List.replicate N.length false)).toArray 4)) N.length (rOvE R W a) Ow w4.heap.size W 0) := by
        refine ⟨(unhide X4).trans (Ext.alloc _ _), (unhide X4).size, ?_, (unhide R4).on (Ext.alloc _ _), ?_⟩
        · have := Row.new w4 (bsV (List.replicate N.length false)) 4
          simpa using this
        · have := k_lt (unhide R4); omega
      clear hmk4
      go_loopw [9] (fun t wr => ∃ (b : Nat), t = .int .i64 (b : Int) ∧ b ≤ N.length ∧ Hd (OvI wp wr N.length (rOvE R W a) Ow w4.heap.size W b)) (fun t _ => N.length - (intOf t).toNat)
      case atStart => exact ⟨0, rfl, by omega, by first | exact HI0 | (have := HI0; simpa [bsV] using this)⟩
      case round =>
        clear HI0
        obtain ⟨b, rfl, hb, hJ⟩ := hrel
        by_cases hbl : b < N.length
        · obtain ⟨rb, hrb⟩ : ∃ rb, R[b]? = some rb := ⟨_, List.getElem?_eq_getElem (by omega)⟩
          obtain ⟨vb, hvb⟩ : ∃ vb, W[b]? = some vb := ⟨_, List.getElem?_eq_getElem (by rw [unhide hWl]; exact hbl)⟩
          have hXj := (unhide hJ).ext
          have hrow := (unhide R2).on (hX.trans hXj)
          have ca := hrow.cell a (bs_at (unhide HRa))
          have cb := hrow.cell b (bs_at hrb)
          have cw := (unhide hJ).rO.cell b (bs_at hvb)
          obtain ⟨y, hy⟩ : ∃ y, ((List.range b).map (rOvE R W a) ++ List.replicate (N.length - b) false)[b]? = some y := ⟨_, List.getElem?_eq_getElem (by simp; omega)⟩
          have cy := (unhide hJ).rR.cell b (bs_at hy)
          have fy := k_rowF (unhide hJ).rR b
          have hbl2 : (b : Int) < (N.length : Int) := by omega
          have hfb : rOvE R W a b = (ra && (rb && ((a == b) || !vb))) := by
            unfold rOvE
            rw [pass_lt (unhide HRa), pass_lt hrb, pass_lt hvb]
          have HFb := hide hfb
          have HSet := hide (fun (v : Bool) (hv : rOvE R W a b = v) => (unhide hJ).set hbl v hv)
          clear hrb hvb hy hfb hrow hJ
          cases ra with
          | false =>
            have HV : rOvE R W a b = false := by rw [unhide HFb]; rfl
            have HS3 := hide ((unhide HSet) false HV)
            clear HSet HV
            go_wp2_with fail
            go_roundw
            case rel => exact ⟨b + 1, by go_num, by omega, HS3⟩
            case measure => simp [intOf]; omega
          | true =>
            cases rb with
            | false =>
              have HV : rOvE R W a b = false := by rw [unhide HFb]; rfl
              have HS3 := hide ((unhide HSet) false HV)
              clear HSet HV
              go_wp2_with fail
              go_roundw
              case rel => exact ⟨b + 1, by go_num, by omega, HS3⟩
              case measure => simp [intOf]; omega
            | true =>
              by_cases hab : a = b
              · have HV : rOvE R W a b = true := by rw [unhide HFb, hab]; simp
                have hab' : ((a : Int) == (b : Int)) = true := by rw [hab]; simp
                have hab2 : (a : Int) = (b : Int) := by omega
                clear HFb
                have HS3 := hide ((unhide HSet) true HV)
                clear HSet HV
                go_wp2_with fail
                go_roundw
                case rel => exact ⟨b + 1, by go_num, by omega, HS3⟩
                case measure => simp [intOf]; omega
              · have hab' : ((a : Int) == (b : Int)) = false := by rw [beq_eq_false_iff_ne]; omega
                have hab3 : (a == b) = false := by rw [beq_eq_false_iff_ne]; exact hab
                cases vb with
                | true =>
                  have HV : rOvE R W a b = false := by rw [unhide HFb, hab3]; rfl
                  clear HFb hab3
                  have HS3 := hide ((unhide HSet) false HV)
                  clear HSet HV
                  go_wp2_with fail
                  go_roundw
                  case rel => exact ⟨b + 1, by go_num, by omega, HS3⟩
                  case measure => simp [intOf]; omega
                | false =>
                  have HV : rOvE R W a b = true := by rw [unhide HFb, hab3]; rfl
                  clear HFb hab3
                  have HS3 := hide ((unhide HSet) true HV)
                  clear HSet HV
                  go_wp2_with fail
                  go_roundw
                  case rel => exact ⟨b + 1, by go_num, by omega, HS3⟩
                  case measure => simp [intOf]; omega
        · obtain rfl : b = N.length := by omega
          have hXj := (unhide hJ).ext
          have HRow : Hd (Row wr w4.heap.size 4 (bsV (rOvR N.length R W a))) := by
            have := (unhide hJ).rR
            rw [Nat.sub_self, List.replicate_zero, List.append_nil] at this
            exact this
          have hoG := (unhide hI).oG
          rw [hgl ha] at hoG
          have HO2 : Hd (∀ ob, (wr.alloc ob).ownsRow w2.heap.size 35 1 (.slice oa a oc) a (slB (O.take a) ads)) := fun ob => k_own_heap hoG (fun t ht => ((Ext.alloc wr ob).block t (Nat.lt_of_lt_of_le (hoG.lt t ht).2 hXj.size)).trans (hXj.block t (hoG.lt t ht).2))
          have HLe2 := hide (Nat.le_trans hX.size hXj.size)
          have hbR := (unhide hJ).bR
          have HAdd : Hd (∀ (w3 : World) (ob : Obj) (g' cap' : Nat), (wr.alloc ob).grownBy w3 (Value.slice oa a oc).ownBlock → w3.ownsRow w2.heap.size 35 1 (.slice (some ⟨g', 0, none⟩) (a + 1) cap') (a + 1) (slB (O.take a) ads ++ [slV w4.heap.size N.length]) → ((Value.slice oa a oc).ownBlock = some g' ∨ wr.heap.size + 1 ≤ g') →
              GbB w2 w3 (O.take (a + 1)) (ads ++ [(some ⟨w4.heap.size, 0, none⟩, N.length)]) (some ⟨g', 0, none⟩) cap') := fun w3 ob g' cap' h3 h4 h5 => by
            have e : O.take (a + 1) = O.take a ++ [rOvR N.length R W a] := by
              rw [List.take_add_one, unhide HOa]
              rfl
            rw [e]
            have hgl' := hgl ha
            refine (unhide hI).add hXj _ (some ⟨w4.heap.size, 0, none⟩, N.length) (row_repB _ (unhide HRow) ⟨hbR, k_lt (unhide HRow)⟩) (ob := ob) ?_ ?_ ?_
            · rw [hgl']; exact h3
            · rw [hgl', rOvR_len]; exact h4
            · rw [hgl']; exact h5
          clear hoG hJ
          go_wp2_with (at_builtin; refine kapp_list rfl (.tmp 57) (.tmp 59) 37 rfl w2.heap.size 35 i1 (.slice none 0 0) 1 24 Try.underlying37 (unhide HJ) (unhide Y0) (unhide Y1) (unhide Y2) rfl (by decide) oa a oc _ rfl (unhide HO2 _) ⟨wr.heap.size, 0, none⟩ 1 1 [slV w4.heap.size N.length] rfl (by decide) rfl (k_new _ _ rfl _ _) (one_sl _ _ _) ?c1 ?c2 ?c3 ?_)
          case c1 => unfold maxLen; omega
          case c2 => omega
          case c3 => first | exact Nat.le_trans (unhide HLe2) (Ext.alloc _ _).size | (have := unhide HLe2; omega)
          intro g' cap' w3 ho hgr hw
          have S3 := hide (unhide HAdd w3 _ g' cap' hgr ho (hw.imp id (fun e => by simpa using e)))
          clear ho hgr hw
          go_wp2_with fail
          go_roundw
          case rel => exact ⟨a + 1, _, _, _, rfl, by go_num, by omega, S3⟩
          case measure => simp [intOf]; omega
    · obtain rfl : a = N.length := by omega
      have HS : Hd (RepGB wr (In wr) oa O) := by
        have := (unhide hI).graph
        rw [List.take_of_length_le (by omega)] at this
        exact this
      have HX := hide (unhide hI).ext
      clear hI hgl
      go_wp2_with fail
      go_ret
      exact ⟨oa, oc, rfl, unhide HS, (unhide X2).trans (unhide HX)⟩

end Go.Proofs.Ytpfjafjpijmckaa
