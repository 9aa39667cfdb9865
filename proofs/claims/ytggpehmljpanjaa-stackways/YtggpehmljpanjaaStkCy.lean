/- Whether there is a cycle without a tick. -/
import Derived.Test.YtggpehmljpanjaaStkCyF
set_option linter.unusedSimpArgs false
set_option linter.unusedVariables false
set_option maxRecDepth 10000
namespace Go.Proofs.Ytggpehmljpanjaa
open Go.RowKit

theorem kL1_step (code : List KI) (hs : List Int) {n k : Nat} (hk : k < n) (left : Int) (into : List Int) : kL1 code hs (n - k) k left into = match kCnt code hs k with
    | none => none
    | some false => kL1 code hs (n - (k + 1)) (k + 1) left into
    | some true => match kAdd (kNext code k) into with
      | none => none
      | some into' => kL1 code hs (n - (k + 1)) (k + 1) (left + 1) into' := by
  rw [show n - k = (n - (k + 1)) + 1 by omega, kL1]
  cases kCnt code hs k with
  | none => rfl
  | some b => cases b <;> rfl
theorem kL2_step (code : List KI) (hs into : List Int) {n k : Nat} (hk : k < n) (free : List Nat) : kL2 code hs into (n - k) k free = match kCnt code hs k with
    | none => none
    | some false => kL2 code hs into (n - (k + 1)) (k + 1) free
    | some true => match into[k]? with
      | none => none
      | some x => kL2 code hs into (n - (k + 1)) (k + 1) (if x = 0 then k :: free else free) := by
  rw [show n - k = (n - (k + 1)) + 1 by omega, kL2]
  cases kCnt code hs k with
  | none => rfl
  | some b => cases b <;> rfl

set_option maxHeartbeats 1000000 in
theorem cyc_w (code : List KI) (hs : List Int) (a ha : Option Addr) (cap hcap K : Nat) (r : Bool) (w : World) (hc : RepC w (In w) a code) (hh : RepZ w (In w) ha hs) (hl : hs.length = code.length) (hn : code.length ≤ 1000000) (hK : K ≤ 1000000) (hr : kCyc code hs K = some r) :
    Calls Try.prog 33 #[.slice a code.length cap, .slice ha code.length hcap] w fun e w' => e = .returned (.bool r) ∧ Ext w w' := by
  have hmk := fun w => make_ints code.length hn w
  have hmf : ∀ (fn : Fn) (first cap : Array Value) (w : World), (Instr.makeFunc fn first cap).run Try.prog w = .ok (.func fn first cap) w := fun _ _ _ _ => rfl
  have HN := hide (fun (W : World) (e : Ext w W) (j : Nat) => next_any code j a cap W (hc.ext e) hn)
  have HCt := hide (fun (W : World) (e : Ext w W) (j : Nat) (r : Bool) (hr : kCnt code hs j = some r) => cnt_any code hs j r a ha cap hcap w.heap.size (w.heap.size + 1) W (hc.ext e) (hh.ext e) hl hn hr)
  unfold kCyc at hr
  cases h1 : kL1 code hs code.length 0 0 (List.replicate code.length 0) with
  | none => rw [h1] at hr; cases hr
  | some q =>
  rw [h1] at hr
  simp only at hr
  obtain ⟨left1, into1⟩ := q
  simp only at hr
  cases h2 : kL2 code hs into1 code.length 0 [] with
  | none => rw [h2] at hr; cases hr
  | some free2 =>
  rw [h2] at hr
  simp only at hr
  cases h4 : kL4 code hs K left1 into1 free2 with
  | none => rw [h4] at hr; cases hr
  | some lf =>
  rw [h4] at hr
  injection hr with hr
  have H1 := hide h1
  have H2 := hide h2
  have H4 := hide h4
  have HR := hide hr
  clear h1 h2 h4 hr hc hh hl
  have hz0 : (zs (List.replicate code.length 0)).toArray = Array.replicate code.length (.int .i64 0) := by simp [zs]
  generalize hN : code.length = n at *
  have HI0 : Hd (CyS w (((w.alloc (.cells #[.slice a n cap] 24)).alloc (.cells #[.slice ha n hcap] 42)).alloc (.cells (zs (List.replicate n 0)).toArray 3)).drew a cap ha hcap n (List.replicate n 0) [] none 0) := by
    have e2 := Ext.alloc (w.alloc (.cells #[.slice a n cap] 24)) (.cells #[.slice ha n hcap] 42)
    have e3 := Ext.alloc ((w.alloc (.cells #[.slice a n cap] 24)).alloc (.cells #[.slice ha n hcap] 42)) (.cells (zs (List.replicate n 0)).toArray 3)
    refine ⟨Ext.drew ((Ext.alloc _ _).trans (e2.trans e3)), ?_, ?_, ?_, by simp, World.ownsRow_nil _ _ _ _⟩
    · exact (e3.block _ (by simp only [heap_alloc_size]; omega)).trans ((e2.block _ (by simp only [heap_alloc_size]; omega)).trans (Go.heap_alloc_new w _))
    · refine (e3.block _ (by simp only [heap_alloc_size]; omega)).trans ?_
      have := Go.heap_alloc_new (w.alloc (.cells #[.slice a n cap] 24)) (.cells #[.slice ha n hcap] 42)
      rw [heap_alloc_size] at this
      exact this
    · have := Go.heap_alloc_new ((w.alloc (.cells #[.slice a n cap] 24)).alloc (.cells #[.slice ha n hcap] 42)) (.cells (zs (List.replicate n 0)).toArray 3)
      rw [heap_alloc_size, heap_alloc_size] at this
      exact this
  rw [hz0] at HI0
  obtain ⟨i0, hi, hz1, hz2, hz3⟩ := k_info
  have HI := hide hi
  have Z0 := hide hz1
  have Z1 := hide hz2
  have Z2 := hide hz3
  clear hi hz1 hz2 hz3 hz0
  go_enter Try.func33, Try.ntmps33
  go_wp2_with fail
  refine k_nrm ?_
  first | skip; go_region | fail
  all_goals
    simp only [KNrm]
    go_wp2_with fail
    go_loopw [5, 22] (fun t5 t22 wr => ∃ (k : Nat) (left : Int) (into : List Int), t22 = .int .i64 k ∧ t5 = .int .i64 left ∧ k ≤ n ∧ 0 ≤ left ∧ left ≤ k ∧ Hd (kL1 code hs (n - k) k left into = some (left1, into1)) ∧ Hd (CyS w wr a cap ha hcap n into [] none 0)) (fun _ t _ => n - (intOf t).toNat)
    case atStart => exact ⟨0, 0, _, rfl, rfl, by omega, by omega, by omega, H1, HI0⟩
    case round =>
      clear HI0 H1
      obtain ⟨k, left, into, rfl, rfl, hk, hl0, hl1, hE, hI⟩ := hrel
      have cX : wr.cell? ⟨w.heap.size, 0, none⟩ = some (.slice a n cap) := k_rowC (unhide hI).rX 0 rfl
      have cY : wr.cell? ⟨w.heap.size + 1, 0, none⟩ = some (.slice ha n hcap) := k_rowC (unhide hI).rY 0 rfl
      by_cases hlt : k < n
      · have hE2 := unhide hE
        rw [kL1_step code hs hlt] at hE2
        cases hcb : kCnt code hs k with
        | none => rw [hcb] at hE2; cases hE2
        | some cb =>
        have HB := hide hcb
        cases cb with
        | false =>
          rw [hcb] at hE2
          have HE2 := hide hE2
          clear hE2 hcb
          go_wp2_with (go_at_call 36; refine Calls.mono (unhide HCt _ (unhide hI).ext k false (unhide HB) cX cY) ?_; rintro e w4 ⟨rfl, hw⟩; obtain rfl := hw.symm)
          go_roundw
          case rel => exact ⟨k + 1, left, into, by go_num, rfl, by omega, by omega, by omega, HE2, hI⟩
          case measure => simp [intOf]; omega
        | true =>
          rw [hcb] at hE2
          simp only at hE2
          cases hA : kAdd (kNext code k) into with
          | none => rw [hA] at hE2; cases hE2
          | some into' =>
          rw [hA] at hE2
          have HE2 := hide hE2
          have HA := hide hA
          clear hE2 hcb hA
          go_wp2_with (first
            | (go_at_call 36; refine Calls.mono (unhide HCt _ (unhide hI).ext k true (unhide HB) cX cY) ?_; rintro e w4 ⟨rfl, hw⟩; obtain rfl := hw.symm)
            | (go_at_call 15; refine Calls.mono (unhide HN _ (unhide hI).ext k) ?_; rintro e w3 ⟨nb, nc, rfl, r1, r2, r3⟩; have R2 := hide (NxR.new (unhide hI).fresh.1 (unhide hI).fresh.2 r2); have I3 := hide ((unhide hI).on r3); clear r1 r2 r3))
          have hNL := kNext_len code (k : Int)
          generalize hNX : kNext code (k : Int) = NX at *
          go_loopw [34] (fun t wr => ∃ (m : Nat) (it : List Int), t = .int .i64 m ∧ m ≤ NX.length ∧ Hd (kAdd (NX.drop m) it = some into') ∧ Hd (CyS w wr a cap ha hcap n it [] none 0) ∧ Hd (NxR w wr none nb NX)) (fun t _ => NX.length - (intOf t).toNat)
          case atStart => exact ⟨0, into, rfl, by omega, HA, I3, R2⟩
          case round =>
            clear I3 R2 HA hI hE cX cY
            obtain ⟨m, it, rfl, hm, hA, hI, hR⟩ := hrel
            by_cases hlm : m < NX.length
            · have hA2 := unhide hA
              obtain ⟨to, hto⟩ : ∃ to, NX[m]? = some to := ⟨_, List.getElem?_eq_getElem hlm⟩
              have hd : NX.drop m = to :: NX.drop (m + 1) := by
                obtain ⟨h1, h2⟩ := List.getElem?_eq_some_iff.1 hto
                rw [List.drop_eq_getElem_cons h1, h2]
              rw [hd, kAdd] at hA2
              by_cases ht0 : to < 0
              · rw [if_pos ht0] at hA2; cases hA2
              rw [if_neg ht0] at hA2
              obtain ⟨t, rfl⟩ : ∃ t : Nat, to = t := ⟨to.toNat, by omega⟩
              rw [show ((t : Int)).toNat = t by omega] at hA2
              cases hx : it[t]? with
              | none => rw [hx] at hA2; cases hA2
              | some x =>
              rw [hx] at hA2
              simp only at hA2
              by_cases hxb : -1000000 ≤ x ∧ x ≤ 1000000
              · rw [if_pos hxb] at hA2
                have HA2 := hide hA2
                obtain ⟨nbb, rfl, hcell⟩ := (unhide hR).at hto
                have cI : wr.cell? ⟨w.heap.size + 1 + 1, t, none⟩ = some (.int .i64 x) := k_rowC (unhide hI).rI t (rH_at hx)
                have fI := k_rowF (unhide hI).rI t
                have htl : t < n := by rw [← (unhide hI).len]; exact (List.getElem?_eq_some_iff.1 hx).1
                clear hA2 hd hto hx ht0
                go_wp2_with fail
                go_roundw
                case rel => exact ⟨m + 1, _, by go_num, by omega, HA2, (unhide hI).setI t (x + 1), (unhide hR).setI t _⟩
                case measure => simp [intOf]; omega
              · rw [if_neg hxb] at hA2; cases hA2
            · obtain rfl : m = NX.length := by omega
              have hit : Hd (it = into') := by
                have := unhide hA
                rw [List.drop_length, kAdd] at this
                injection this
              go_wp2_with fail
              go_roundw
              case rel => exact ⟨k + 1, left + 1, it, by go_num, by go_num, by omega, by omega, by omega, by rw [unhide hit]; exact HE2, hI⟩
              case measure => simp [intOf]; omega
      · obtain rfl : k = n := by omega
        have hq := unhide hE
        rw [Nat.sub_self, kL1] at hq
        injection hq with hq
        injection hq with hq1 hq2
        subst hq1 hq2
        clear hE hlt hk
        go_wp2_with fail
        go_loopw [11, 48] (fun t11 t48 wr => ∃ (m : Nat) (free : List Nat) (fa : Option Addr) (fc : Nat), t48 = .int .i64 m ∧ t11 = .slice fa free.length fc ∧ m ≤ k ∧ free.length ≤ m ∧ Hd (kL2 code hs into (k - m) m free = some free2) ∧ Hd (CyS w wr a cap ha hcap k into free fa fc)) (fun _ t _ => k - (intOf t).toNat)
        case atStart => exact ⟨0, [], none, 0, rfl, rfl, by omega, by simp, H2, hI⟩
        case round =>
          clear hI cX cY H2
          obtain ⟨m, free, fa, fc, rfl, rfl, hm, hfl, hE, hI⟩ := hrel
          have cX : wr.cell? ⟨w.heap.size, 0, none⟩ = some (.slice a k cap) := k_rowC (unhide hI).rX 0 rfl
          have cY : wr.cell? ⟨w.heap.size + 1, 0, none⟩ = some (.slice ha k hcap) := k_rowC (unhide hI).rY 0 rfl
          by_cases hlt : m < k
          · have hE2 := unhide hE
            rw [kL2_step code hs into hlt] at hE2
            cases hcb : kCnt code hs m with
            | none => rw [hcb] at hE2; cases hE2
            | some cb =>
            have HB := hide hcb
            cases cb with
            | false =>
              rw [hcb] at hE2
              have HE2 := hide hE2
              clear hE2 hcb
              go_wp2_with (go_at_call 36; refine Calls.mono (unhide HCt _ (unhide hI).ext m false (unhide HB) cX cY) ?_; rintro e w4 ⟨rfl, hw⟩; obtain rfl := hw.symm)
              go_roundw
              case rel => exact ⟨m + 1, free, fa, fc, by go_num, rfl, by omega, by omega, HE2, hI⟩
              case measure => simp [intOf]; omega
            | true =>
              rw [hcb] at hE2
              simp only at hE2
              cases hx : into[m]? with
              | none => rw [hx] at hE2; cases hE2
              | some x =>
              rw [hx] at hE2
              simp only at hE2
              have cI : wr.cell? ⟨w.heap.size + 1 + 1, m, none⟩ = some (.int .i64 x) := k_rowC (unhide hI).rI m (rH_at hx)
              by_cases hx0 : x = 0
              · rw [if_pos hx0] at hE2
                have HE2 := hide hE2
                subst hx0
                have HO : Hd (∀ ob, (wr.alloc ob).ownsRow (w.heap.size + 3) 3 1 (.slice fa free.length fc) free.length (ns free.reverse)) := fun ob => ((unhide hI).on (Ext.alloc wr ob)).own
                have HL : Hd (∀ ob, w.heap.size + 3 ≤ (wr.alloc ob).heap.size) := fun ob => Nat.le_trans (unhide hI).fresh.1 (Ext.alloc wr ob).size
                have HP := hide (fun (w2 : World) (ob : Obj) (g' cap' : Nat) => (unhide hI).push (w2 := w2) (ob := ob) (g' := g') (cap' := cap') (j := m))
                clear hE2 hcb hx
                generalize ns free.reverse = XS at HO HP
                go_wp2_with (first
                  | (go_at_call 36; refine Calls.mono (unhide HCt _ (unhide hI).ext m true (unhide HB) cX cY) ?_; rintro e w4 ⟨rfl, hw⟩; obtain rfl := hw.symm)
                  | (at_builtin; refine kapp_list rfl (.tmp 61) (.tmp 63) 42 rfl (w.heap.size + 3) 3 i0 (.int .i64 0) 1 8 Try.underlying42 (unhide HI) (unhide Z0) (unhide Z1) (unhide Z2) rfl (by decide) fa free.length fc _ rfl (unhide HO _) ⟨wr.heap.size, 0, none⟩ 1 1 [.int .i64 (m : Int)] rfl (by decide) rfl (k_new _ _ rfl _ _) (k_one_int _) ?c1 ?c2 (unhide HL _) ?_))
                case c1 => unfold maxLen; omega
                case c2 => omega
                intro g' cap' w3 ho hg hw
                have HW := hide (unhide HP w3 _ g' cap' hg ho)
                clear ho hg hw
                go_wp2_with fail
                go_roundw
                case rel => exact ⟨m + 1, m :: free, _, cap', by go_num, rfl, by omega, by simp; omega, HE2, HW⟩
                case measure => simp [intOf]; omega
              · rw [if_neg hx0] at hE2
                have HE2 := hide hE2
                have hxf : (x == 0) = false := by rw [beq_eq_false_iff_ne]; exact hx0
                clear hE2 hcb hx hx0
                go_wp2_with (go_at_call 36; refine Calls.mono (unhide HCt _ (unhide hI).ext m true (unhide HB) cX cY) ?_; rintro e w4 ⟨rfl, hw⟩; obtain rfl := hw.symm)
                go_roundw
                case rel => exact ⟨m + 1, free, fa, fc, by go_num, rfl, by omega, by omega, HE2, hI⟩
                case measure => simp [intOf]; omega
          · obtain rfl : m = k := by omega
            have hq := unhide hE
            rw [Nat.sub_self, kL2] at hq
            injection hq with hq
            subst hq
            clear hE hlt
            go_wp2_with fail
            go_loopg [5, 11] K (fun gk t5 t11 wr => ∃ (lf' : Int) (it : List Int) (fr : List Nat) (fa : Option Addr) (fc : Nat), t5 = .int .i64 lf' ∧ t11 = .slice fa fr.length fc ∧ Hd (kL4 code hs gk lf' it fr = some lf) ∧ Hd (CyS w wr a cap ha hcap m it fr fa fc) ∧ fr.length + 2 * gk ≤ m + 2 * K)
            case atStart => exact ⟨left, into, free, fa, fc, rfl, rfl, H4, hI, by omega⟩
            case round =>
              clear hI cX cY H4
              obtain ⟨lf', it, fr, fa, fc, rfl, rfl, hE, hI, hfl⟩ := hrel
              have cX : wr.cell? ⟨w.heap.size, 0, none⟩ = some (.slice a m cap) := k_rowC (unhide hI).rX 0 rfl
              have cY : wr.cell? ⟨w.heap.size + 1, 0, none⟩ = some (.slice ha m hcap) := k_rowC (unhide hI).rY 0 rfl
              cases gk with
              | zero => have h0 := unhide hE; rw [kL4] at h0; cases h0
              | succ gk =>
              have hE2 := unhide hE
              cases fr with
              | nil =>
                rw [kL4] at hE2
                injection hE2 with hE2
                have HL : Hd (lf' = lf) := hE2
                clear hE2
                go_wp2_with fail
                go_ret
                refine ⟨ret_bool ?_, (unhide hI).ext⟩
                rw [← unhide HR, ← unhide HL]
              | cons j rr =>
                rw [kL4] at hE2
                by_cases hlb : -1000000 ≤ lf' ∧ lf' ≤ 1000000
                · rw [if_pos hlb] at hE2
                  cases hS : kSub code hs (kNext code j) it rr with
                  | none => rw [hS] at hE2; cases hE2
                  | some q =>
                  rw [hS] at hE2
                  have HE2 := hide hE2
                  have HS := hide hS
                  obtain ⟨g, rfl, hgc, hct⟩ := (unhide hI).top
                  have HI1 := hide (unhide hI).pop
                  have hrl : rr.length + 1 + 2 * (gk + 1) ≤ m + 2 * K := by simpa using hfl
                  clear hE2 hS hfl hI
                  simp only [List.length_cons]
                  go_wp2_with (go_at_call 15; refine Calls.mono (unhide HN _ (unhide HI1).ext j) ?_; rintro e w3 ⟨nb, nc, rfl, r1, r2, r3⟩; have R2 := hide (NxR.new (unhide HI1).fresh.1 (unhide HI1).fresh.2 r2); have I3 := hide ((unhide HI1).on r3); clear r1 r2 r3)
                  have hNL := kNext_len code (j : Int)
                  generalize hNX : kNext code (j : Int) = NX at *
                  go_loopw [11, 86] (fun t11 t wr => ∃ (p : Nat) (it' : List Int) (fr : List Nat) (fa : Option Addr) (fc : Nat), t = .int .i64 p ∧ t11 = .slice fa fr.length fc ∧ p ≤ NX.length ∧ fr.length ≤ rr.length + p ∧ Hd (kSub code hs (NX.drop p) it' fr = some q) ∧ Hd (CyS w wr a cap ha hcap m it' fr fa fc) ∧ Hd (NxR w wr fa nb NX)) (fun _ t _ => NX.length - (intOf t).toNat)
                  case atStart => exact ⟨0, it, rr, _, fc, rfl, rfl, by omega, by omega, HS, I3, R2⟩
                  case round =>
                    clear I3 R2 HS HI1 hE cX cY hct
                    obtain ⟨p, it', fr, fa, fc, rfl, rfl, hp, hfr, hS, hI, hR⟩ := hrel
                    have cX : wr.cell? ⟨w.heap.size, 0, none⟩ = some (.slice a m cap) := k_rowC (unhide hI).rX 0 rfl
                    have cY : wr.cell? ⟨w.heap.size + 1, 0, none⟩ = some (.slice ha m hcap) := k_rowC (unhide hI).rY 0 rfl
                    by_cases hlp : p < NX.length
                    · have hA2 := unhide hS
                      obtain ⟨to, hto⟩ : ∃ to, NX[p]? = some to := ⟨_, List.getElem?_eq_getElem hlp⟩
                      have hd : NX.drop p = to :: NX.drop (p + 1) := by
                        obtain ⟨h1, h2⟩ := List.getElem?_eq_some_iff.1 hto
                        rw [List.drop_eq_getElem_cons h1, h2]
                      rw [hd, kSub] at hA2
                      by_cases ht0 : to < 0
                      · rw [if_pos ht0] at hA2; cases hA2
                      rw [if_neg ht0] at hA2
                      obtain ⟨t, rfl⟩ : ∃ t : Nat, to = t := ⟨to.toNat, by omega⟩
                      rw [show ((t : Int)).toNat = t by omega] at hA2
                      cases hx : it'[t]? with
                      | none => rw [hx] at hA2; cases hA2
                      | some x =>
                      rw [hx] at hA2
                      simp only at hA2
                      by_cases hxb : -1000000 ≤ x ∧ x ≤ 1000000
                      · rw [if_pos hxb] at hA2
                        obtain ⟨nbb, rfl, hcell⟩ := (unhide hR).at hto
                        have cI : wr.cell? ⟨w.heap.size + 1 + 1, t, none⟩ = some (.int .i64 x) := k_rowC (unhide hI).rI t (rH_at hx)
                        have fI := k_rowF (unhide hI).rI t
                        have htl : t < m := by rw [← (unhide hI).len]; exact (List.getElem?_eq_some_iff.1 hx).1
                        have I1 := hide ((unhide hI).setI t (x - 1))
                        have R1 := hide ((unhide hR).setI t (.int .i64 (x - 1)))
                        have dX : (wr.setCell ⟨w.heap.size + 1 + 1, t, none⟩ (.int .i64 (x - 1))).cell? ⟨w.heap.size, 0, none⟩ = some (.slice a m cap) := k_rowC (unhide I1).rX 0 rfl
                        have dY : (wr.setCell ⟨w.heap.size + 1 + 1, t, none⟩ (.int .i64 (x - 1))).cell? ⟨w.heap.size + 1, 0, none⟩ = some (.slice ha m hcap) := k_rowC (unhide I1).rY 0 rfl
                        clear hd hto hx ht0 hI hR
                        by_cases hx1 : x - 1 = 0
                        · rw [if_pos hx1] at hA2
                          cases hcb : kCnt code hs t with
                          | none => rw [hcb] at hA2; cases hA2
                          | some cb =>
                          rw [hcb] at hA2
                          simp only at hA2
                          have HB := hide hcb
                          have hxt : ((x - 1) == 0) = true := by simp [hx1]
                          clear hcb hx1
                          cases cb with
                          | false =>
                            have HA2 : Hd (kSub code hs (NX.drop (p + 1)) (it'.set t (x - 1)) fr = some q) := by unfold Hd; simpa using hA2
                            clear hA2
                            go_wp2_with (go_at_call 36; refine Calls.mono (unhide HCt _ (unhide I1).ext t false (unhide HB) dX dY) ?_; rintro e w4 ⟨rfl, hw⟩; obtain rfl := hw.symm)
                            go_roundw
                            case rel => exact ⟨p + 1, _, fr, fa, fc, by go_num, rfl, by omega, by omega, HA2, I1, R1⟩
                            case measure => simp [intOf]; omega
                          | true =>
                            have HA2 : Hd (kSub code hs (NX.drop (p + 1)) (it'.set t (x - 1)) (t :: fr) = some q) := by unfold Hd; simpa using hA2
                            have hZ : (wr.setCell ⟨w.heap.size + 1 + 1, t, none⟩ (.int .i64 (x - 1))).heap.size = wr.heap.size := by simp [World.setCell]
                            have HZ := hide hZ
                            have HO : Hd (∀ ob, ((wr.setCell ⟨w.heap.size + 1 + 1, t, none⟩ (.int .i64 (x - 1))).alloc ob).ownsRow (w.heap.size + 3) 3 1 (.slice fa fr.length fc) fr.length (ns fr.reverse)) := fun ob => ((unhide I1).on (Ext.alloc _ ob)).own
                            have HL : Hd (∀ ob, w.heap.size + 3 ≤ ((wr.setCell ⟨w.heap.size + 1 + 1, t, none⟩ (.int .i64 (x - 1))).alloc ob).heap.size) := fun ob => Nat.le_trans (unhide I1).fresh.1 (Ext.alloc _ ob).size
                            have HP := hide (fun (w2 : World) (ob : Obj) (g' cap' : Nat) => (unhide I1).push (w2 := w2) (ob := ob) (g' := g') (cap' := cap') (j := t))
                            have HQ := hide (fun (w2 : World) (ob : Obj) (g' : Nat) => (unhide R1).push (w2 := w2) (ob := ob) (g' := g') (m := fr.length) (c := fc))
                            clear hA2 hZ
                            generalize ns fr.reverse = XS at HO HP
                            go_wp2_with (first
                              | (go_at_call 36; refine Calls.mono (unhide HCt _ (unhide I1).ext t true (unhide HB) dX dY) ?_; rintro e w4 ⟨rfl, hw⟩; obtain rfl := hw.symm)
                              | (at_builtin; refine kapp_list rfl (.tmp 106) (.tmp 108) 42 rfl (w.heap.size + 3) 3 i0 (.int .i64 0) 1 8 Try.underlying42 (unhide HI) (unhide Z0) (unhide Z1) (unhide Z2) rfl (by decide) fa fr.length fc _ rfl (unhide HO _) ⟨wr.heap.size, 0, none⟩ 1 1 [.int .i64 (t : Int)] rfl (by decide) rfl (k_new _ _ (unhide HZ).symm _ _) (k_one_int _) ?c1 ?c2 (unhide HL _) ?_))
                            case c1 => unfold maxLen; omega
                            case c2 => omega
                            intro g' cap' w3 ho hg hw
                            have HW := hide (unhide HP w3 _ g' cap' hg ho)
                            have HV := hide (unhide HQ w3 _ g' hg (hw.imp id (fun e => by rw [heap_alloc_size, unhide HZ]; exact e)))
                            clear ho hg hw
                            go_wp2_with fail
                            go_roundw
                            case rel => exact ⟨p + 1, _, t :: fr, _, cap', by go_num, rfl, by omega, by simp; omega, HA2, HW, HV⟩
                            case measure => simp [intOf]; omega
                        · rw [if_neg hx1] at hA2
                          have HA2 := hide hA2
                          have hxt : ((x - 1) == 0) = false := by rw [beq_eq_false_iff_ne]; exact hx1
                          clear hA2 hx1
                          go_wp2_with fail
                          go_roundw
                          case rel => exact ⟨p + 1, _, fr, fa, fc, by go_num, rfl, by omega, by omega, HA2, I1, R1⟩
                          case measure => simp [intOf]; omega
                      · rw [if_neg hxb] at hA2; cases hA2
                    · obtain rfl : p = NX.length := by omega
                      have hq := unhide hS
                      rw [List.drop_length, kSub] at hq
                      injection hq with hq
                      subst hq
                      go_wp2_with fail
                      go_roundg gk
                      case measure => omega
                      case rel => exact ⟨lf' - 1, it', fr, fa, fc, by go_num, rfl, HE2, hI, by omega⟩
                · rw [if_neg hlb] at hE2; cases hE2

end Go.Proofs.Ytggpehmljpanjaa
