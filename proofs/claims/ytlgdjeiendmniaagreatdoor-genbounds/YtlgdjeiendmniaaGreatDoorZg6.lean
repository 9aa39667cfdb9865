/- Whether there is a cycle without a tick. · Whether a code is ticked. · Functions and programs of stack code as plain data; what may stand in one. · Whether a function has its form; its heights. -/
import Derived.Test.YtlgdjeiendmniaaGreatDoorZg5
import Derived.Deep.QuietTactic
import Derived.BigQuiet
set_option linter.unusedSimpArgs false
set_option linter.unusedVariables false
set_option maxRecDepth 10000

namespace Go.Proofs.YtlgdjeiendmniaaGreatDoor.V
open Go.RowKit

theorem kL1_step (code : List KI) (hs : List Int) {n k : Nat} (hk : k < n) (left : Int) (into : List Int) : kL1 code hs (n - k) k left into = match kCnt code hs k with
    | none => none
    | some false => kL1 code hs (n - (k + 1)) (k + 1) left into
    | some true => match kAdd (kNext code k) into with
      | none => none
      | some into' => kL1 code hs (n - (k + 1)) (k + 1) (left + 1) into' := by
  rw [show n - k = (n - (k + 1)) + 1 by omega, kL1]
  cases kCnt code hs k with
  | none => rfl
  | some b => cases b <;> rfl
theorem kL2_step (code : List KI) (hs into : List Int) {n k : Nat} (hk : k < n) (free : List Nat) : kL2 code hs into (n - k) k free = match kCnt code hs k with
    | none => none
    | some false => kL2 code hs into (n - (k + 1)) (k + 1) free
    | some true => match into[k]? with
      | none => none
      | some x => kL2 code hs into (n - (k + 1)) (k + 1) (if x = 0 then k :: free else free) := by
  rw [show n - k = (n - (k + 1)) + 1 by omega, kL2]
  cases kCnt code hs k with
  | none => rfl
  | some b => cases b <;> rfl

set_option maxHeartbeats 1000000 in
theorem cyc_w (code : List KI) (hs : List Int) (a ha : Option Addr) (cap hcap K : Nat) (r : Bool) (w : World) (hc : RepC w (In w) a code) (hh : RepZ w (In w) ha hs) (hl : hs.length = code.length) (hn : code.length ≤ 1000000) (hK : K ≤ 1000000) (hr : kCyc code hs K = some r) :
    Calls Tryz.prog 46 #[.slice a code.length cap, .slice ha code.length hcap] w fun e w' => e = .returned (.bool r) ∧ Ext w w' := by
  have hmk := fun w => make_ints code.length hn w
  have hmf : ∀ (fn : Fn) (first cap : Array Value) (w : World), (Instr.makeFunc fn first cap).run Tryz.prog w = .ok (.func fn first cap) w := fun _ _ _ _ => rfl
  have HN := hide (fun (W : World) (e : Ext w W) (j : Nat) => next_any code j a cap W (hc.ext e) hn)
  have HCt := hide (fun (W : World) (e : Ext w W) (j : Nat) (r : Bool) (hr : kCnt code hs j = some r) => cnt_any code hs j r a ha cap hcap w.heap.size (w.heap.size + 1) W (hc.ext e) (hh.ext e) hl hn hr)
  unfold kCyc at hr
  cases h1 : kL1 code hs code.length 0 0 (List.replicate code.length 0) with
  | none => rw [h1] at hr; cases hr
  | some q =>
  rw [h1] at hr
  simp only at hr
  obtain ⟨left1, into1⟩ := q
  simp only at hr
  cases h2 : kL2 code hs into1 code.length 0 [] with
  | none => rw [h2] at hr; cases hr
  | some free2 =>
  rw [h2] at hr
  simp only at hr
  cases h4 : kL4 code hs K left1 into1 free2 with
  | none => rw [h4] at hr; cases hr
  | some lf =>
  rw [h4] at hr
  injection hr with hr
  have H1 := hide h1
  have H2 := hide h2
  have H4 := hide h4
  have HR := hide hr
  clear h1 h2 h4 hr hc hh hl
  have hz0 : (zs (List.replicate code.length 0)).toArray = Array.replicate code.length (.int .i64 0) := by simp [zs]
  generalize hN : code.length = n at *
  have HI0 : Hd (CyS w (((w.alloc (.cells #[.slice a n cap] 29)).alloc (.cells #[.slice ha n hcap] 45)).alloc (.cells (zs (List.replicate n 0)).toArray 3)).drew a cap ha hcap n (List.replicate n 0) [] none 0) := by
    have e2 := Ext.alloc (w.alloc (.cells #[.slice a n cap] 29)) (.cells #[.slice ha n hcap] 45)
    have e3 := Ext.alloc ((w.alloc (.cells #[.slice a n cap] 29)).alloc (.cells #[.slice ha n hcap] 45)) (.cells (zs (List.replicate n 0)).toArray 3)
    refine ⟨Ext.drew ((Ext.alloc _ _).trans (e2.trans e3)), ?_, ?_, ?_, by simp, World.ownsRow_nil _ _ _ _⟩
    · exact (e3.block _ (by simp only [heap_alloc_size]; omega)).trans ((e2.block _ (by simp only [heap_alloc_size]; omega)).trans (Go.heap_alloc_new w _))
    · refine (e3.block _ (by simp only [heap_alloc_size]; omega)).trans ?_
      have := Go.heap_alloc_new (w.alloc (.cells #[.slice a n cap] 29)) (.cells #[.slice ha n hcap] 45)
      rw [heap_alloc_size] at this
      exact this
    · have := Go.heap_alloc_new ((w.alloc (.cells #[.slice a n cap] 29)).alloc (.cells #[.slice ha n hcap] 45)) (.cells (zs (List.replicate n 0)).toArray 3)
      rw [heap_alloc_size, heap_alloc_size] at this
      exact this
  rw [hz0] at HI0
  obtain ⟨i0, hi, hz1, hz2, hz3⟩ := k_info
  have HI := hide hi
  have Z0 := hide hz1
  have Z1 := hide hz2
  have Z2 := hide hz3
  clear hi hz1 hz2 hz3 hz0
  go_enter Tryz.func46, Tryz.ntmps46
  go_wp2_with fail
  refine k_nrm ?_
  first | skip; go_region | fail
  all_goals
    simp only [KNrm]
    go_wp2_with fail
    go_loopw [5, 22] (fun t5 t22 wr => ∃ (k : Nat) (left : Int) (into : List Int), t22 = .int .i64 k ∧ t5 = .int .i64 left ∧ k ≤ n ∧ 0 ≤ left ∧ left ≤ k ∧ Hd (kL1 code hs (n - k) k left into = some (left1, into1)) ∧ Hd (CyS w wr a cap ha hcap n into [] none 0)) (fun _ t _ => n - (intOf t).toNat)
    case atStart => exact ⟨0, 0, _, rfl, rfl, by omega, by omega, by omega, H1, HI0⟩
    case round =>
      clear HI0 H1
      obtain ⟨k, left, into, rfl, rfl, hk, hl0, hl1, hE, hI⟩ := hrel
      have cX : wr.cell? ⟨w.heap.size, 0, none⟩ = some (.slice a n cap) := k_rowC (unhide hI).rX 0 rfl
      have cY : wr.cell? ⟨w.heap.size + 1, 0, none⟩ = some (.slice ha n hcap) := k_rowC (unhide hI).rY 0 rfl
      by_cases hlt : k < n
      · have hE2 := unhide hE
        rw [kL1_step code hs hlt] at hE2
        cases hcb : kCnt code hs k with
        | none => rw [hcb] at hE2; cases hE2
        | some cb =>
        have HB := hide hcb
        cases cb with
        | false =>
          rw [hcb] at hE2
          have HE2 := hide hE2
          clear hE2 hcb
          go_wp2_with (go_at_call 72; refine Calls.mono (unhide HCt _ (unhide hI).ext k false (unhide HB) cX cY) ?_; rintro e w4 ⟨rfl, hw⟩; obtain rfl := hw.symm)
          go_roundw
          case rel => exact ⟨k + 1, left, into, by go_num, rfl, by omega, by omega, by omega, HE2, hI⟩
          case measure => simp [intOf]; omega
        | true =>
          rw [hcb] at hE2
          simp only at hE2
          cases hA : kAdd (kNext code k) into with
          | none => rw [hA] at hE2; cases hE2
          | some into' =>
          rw [hA] at hE2
          have HE2 := hide hE2
          have HA := hide hA
          clear hE2 hcb hA
          go_wp2_with (first
            | (go_at_call 72; refine Calls.mono (unhide HCt _ (unhide hI).ext k true (unhide HB) cX cY) ?_; rintro e w4 ⟨rfl, hw⟩; obtain rfl := hw.symm)
            | (go_at_call 70; refine Calls.mono (unhide HN _ (unhide hI).ext k) ?_; rintro e w3 ⟨nb, nc, rfl, r1, r2, r3⟩; have R2 := hide (NxR.new (unhide hI).fresh.1 (unhide hI).fresh.2 r2); have I3 := hide ((unhide hI).on r3); clear r1 r2 r3))
          have hNL := kNext_len code (k : Int)
          generalize hNX : kNext code (k : Int) = NX at *
          go_loopw [34] (fun t wr => ∃ (m : Nat) (it : List Int), t = .int .i64 m ∧ m ≤ NX.length ∧ Hd (kAdd (NX.drop m) it = some into') ∧ Hd (CyS w wr a cap ha hcap n it [] none 0) ∧ Hd (NxR w wr none nb NX)) (fun t _ => NX.length - (intOf t).toNat)
          case atStart => exact ⟨0, into, rfl, by omega, HA, I3, R2⟩
          case round =>
            clear I3 R2 HA hI hE cX cY
            obtain ⟨m, it, rfl, hm, hA, hI, hR⟩ := hrel
            by_cases hlm : m < NX.length
            · have hA2 := unhide hA
              obtain ⟨to, hto⟩ : ∃ to, NX[m]? = some to := ⟨_, List.getElem?_eq_getElem hlm⟩
              have hd : NX.drop m = to :: NX.drop (m + 1) := by
                obtain ⟨h1, h2⟩ := List.getElem?_eq_some_iff.1 hto
                rw [List.drop_eq_getElem_cons h1, h2]
              rw [hd, kAdd] at hA2
              by_cases ht0 : to < 0
              · rw [if_pos ht0] at hA2; cases hA2
              rw [if_neg ht0] at hA2
              obtain ⟨t, rfl⟩ : ∃ t : Nat, to = t := ⟨to.toNat, by omega⟩
              rw [show ((t : Int)).toNat = t by omega] at hA2
              cases hx : it[t]? with
              | none => rw [hx] at hA2; cases hA2
              | some x =>
              rw [hx] at hA2
              simp only at hA2
              by_cases hxb : -1000000 ≤ x ∧ x ≤ 1000000
              · rw [if_pos hxb] at hA2
                have HA2 := hide hA2
                obtain ⟨nbb, rfl, hcell⟩ := (unhide hR).at hto
                have cI : wr.cell? ⟨w.heap.size + 1 + 1, t, none⟩ = some (.int .i64 x) := k_rowC (unhide hI).rI t (rH_at hx)
                have fI := k_rowF (unhide hI).rI t
                have htl : t < n := by rw [← (unhide hI).len]; exact (List.getElem?_eq_some_iff.1 hx).1
                clear hA2 hd hto hx ht0
                go_wp2_with fail
                go_roundw
                case rel => exact ⟨m + 1, _, by go_num, by omega, HA2, (unhide hI).setI t (x + 1), (unhide hR).setI t _⟩
                case measure => simp [intOf]; omega
              · rw [if_neg hxb] at hA2; cases hA2
            · obtain rfl : m = NX.length := by omega
              have hit : Hd (it = into') := by
                have := unhide hA
                rw [List.drop_length, kAdd] at this
                injection this
              go_wp2_with fail
              go_roundw
              case rel => exact ⟨k + 1, left + 1, it, by go_num, by go_num, by omega, by omega, by omega, by rw [unhide hit]; exact HE2, hI⟩
              case measure => simp [intOf]; omega
      · obtain rfl : k = n := by omega
        have hq := unhide hE
        rw [Nat.sub_self, kL1] at hq
        injection hq with hq
        injection hq with hq1 hq2
        subst hq1 hq2
        clear hE hlt hk
        go_wp2_with fail
        go_loopw [11, 48] (fun t11 t48 wr => ∃ (m : Nat) (free : List Nat) (fa : Option Addr) (fc : Nat), t48 = .int .i64 m ∧ t11 = .slice fa free.length fc ∧ m ≤ k ∧ free.length ≤ m ∧ Hd (kL2 code hs into (k - m) m free = some free2) ∧ Hd (CyS w wr a cap ha hcap k into free fa fc)) (fun _ t _ => k - (intOf t).toNat)
        case atStart => exact ⟨0, [], none, 0, rfl, rfl, by omega, by simp, H2, hI⟩
        case round =>
          clear hI cX cY H2
          obtain ⟨m, free, fa, fc, rfl, rfl, hm, hfl, hE, hI⟩ := hrel
          have cX : wr.cell? ⟨w.heap.size, 0, none⟩ = some (.slice a k cap) := k_rowC (unhide hI).rX 0 rfl
          have cY : wr.cell? ⟨w.heap.size + 1, 0, none⟩ = some (.slice ha k hcap) := k_rowC (unhide hI).rY 0 rfl
          by_cases hlt : m < k
          · have hE2 := unhide hE
            rw [kL2_step code hs into hlt] at hE2
            cases hcb : kCnt code hs m with
            | none => rw [hcb] at hE2; cases hE2
            | some cb =>
            have HB := hide hcb
            cases cb with
            | false =>
              rw [hcb] at hE2
              have HE2 := hide hE2
              clear hE2 hcb
              go_wp2_with (go_at_call 72; refine Calls.mono (unhide HCt _ (unhide hI).ext m false (unhide HB) cX cY) ?_; rintro e w4 ⟨rfl, hw⟩; obtain rfl := hw.symm)
              go_roundw
              case rel => exact ⟨m + 1, free, fa, fc, by go_num, rfl, by omega, by omega, HE2, hI⟩
              case measure => simp [intOf]; omega
            | true =>
              rw [hcb] at hE2
              simp only at hE2
              cases hx : into[m]? with
              | none => rw [hx] at hE2; cases hE2
              | some x =>
              rw [hx] at hE2
              simp only at hE2
              have cI : wr.cell? ⟨w.heap.size + 1 + 1, m, none⟩ = some (.int .i64 x) := k_rowC (unhide hI).rI m (rH_at hx)
              by_cases hx0 : x = 0
              · rw [if_pos hx0] at hE2
                have HE2 := hide hE2
                subst hx0
                have HO : Hd (∀ ob, (wr.alloc ob).ownsRow (w.heap.size + 3) 3 1 (.slice fa free.length fc) free.length (ns free.reverse)) := fun ob => ((unhide hI).on (Ext.alloc wr ob)).own
                have HL : Hd (∀ ob, w.heap.size + 3 ≤ (wr.alloc ob).heap.size) := fun ob => Nat.le_trans (unhide hI).fresh.1 (Ext.alloc wr ob).size
                have HP := hide (fun (w2 : World) (ob : Obj) (g' cap' : Nat) => (unhide hI).push (w2 := w2) (ob := ob) (g' := g') (cap' := cap') (j := m))
                clear hE2 hcb hx
                generalize ns free.reverse = XS at HO HP
                go_wp2_with (first
                  | (go_at_call 72; refine Calls.mono (unhide HCt _ (unhide hI).ext m true (unhide HB) cX cY) ?_; rintro e w4 ⟨rfl, hw⟩; obtain rfl := hw.symm)
                  | (at_builtin; refine kapp_list rfl (.tmp 61) (.tmp 63) 45 rfl (w.heap.size + 3) 3 i0 (.int .i64 0) 1 8 Tryz.underlying45 (unhide HI) (unhide Z0) (unhide Z1) (unhide Z2) rfl (by decide) fa free.length fc _ rfl (unhide HO _) ⟨wr.heap.size, 0, none⟩ 1 1 [.int .i64 (m : Int)] rfl (by decide) rfl (k_new _ _ rfl _ _) (k_one_int _) ?c1 ?c2 (unhide HL _) ?_))
                case c1 => unfold maxLen; omega
                case c2 => omega
                intro g' cap' w3 ho hg hw
                have HW := hide (unhide HP w3 _ g' cap' hg ho)
                clear ho hg hw
                go_wp2_with fail
                go_roundw
                case rel => exact ⟨m + 1, m :: free, _, cap', by go_num, rfl, by omega, by simp; omega, HE2, HW⟩
                case measure => simp [intOf]; omega
              · rw [if_neg hx0] at hE2
                have HE2 := hide hE2
                have hxf : (x == 0) = false := by rw [beq_eq_false_iff_ne]; exact hx0
                clear hE2 hcb hx hx0
                go_wp2_with (go_at_call 72; refine Calls.mono (unhide HCt _ (unhide hI).ext m true (unhide HB) cX cY) ?_; rintro e w4 ⟨rfl, hw⟩; obtain rfl := hw.symm)
                go_roundw
                case rel => exact ⟨m + 1, free, fa, fc, by go_num, rfl, by omega, by omega, HE2, hI⟩
                case measure => simp [intOf]; omega
          · obtain rfl : m = k := by omega
            have hq := unhide hE
            rw [Nat.sub_self, kL2] at hq
            injection hq with hq
            subst hq
            clear hE hlt
            go_wp2_with fail
            go_loopg [5, 11] K (fun gk t5 t11 wr => ∃ (lf' : Int) (it : List Int) (fr : List Nat) (fa : Option Addr) (fc : Nat), t5 = .int .i64 lf' ∧ t11 = .slice fa fr.length fc ∧ Hd (kL4 code hs gk lf' it fr = some lf) ∧ Hd (CyS w wr a cap ha hcap m it fr fa fc) ∧ fr.length + 2 * gk ≤ m + 2 * K)
            case atStart => exact ⟨left, into, free, fa, fc, rfl, rfl, H4, hI, by omega⟩
            case round =>
              clear hI cX cY H4
              obtain ⟨lf', it, fr, fa, fc, rfl, rfl, hE, hI, hfl⟩ := hrel
              have cX : wr.cell? ⟨w.heap.size, 0, none⟩ = some (.slice a m cap) := k_rowC (unhide hI).rX 0 rfl
              have cY : wr.cell? ⟨w.heap.size + 1, 0, none⟩ = some (.slice ha m hcap) := k_rowC (unhide hI).rY 0 rfl
              cases gk with
              | zero => have h0 := unhide hE; rw [kL4] at h0; cases h0
              | succ gk =>
              have hE2 := unhide hE
              cases fr with
              | nil =>
                rw [kL4] at hE2
                injection hE2 with hE2
                have HL : Hd (lf' = lf) := hE2
                clear hE2
                go_wp2_with fail
                go_ret
                refine ⟨ret_bool ?_, (unhide hI).ext⟩
                rw [← unhide HR, ← unhide HL]
              | cons j rr =>
                rw [kL4] at hE2
                by_cases hlb : -1000000 ≤ lf' ∧ lf' ≤ 1000000
                · rw [if_pos hlb] at hE2
                  cases hS : kSub code hs (kNext code j) it rr with
                  | none => rw [hS] at hE2; cases hE2
                  | some q =>
                  rw [hS] at hE2
                  have HE2 := hide hE2
                  have HS := hide hS
                  obtain ⟨g, rfl, hgc, hct⟩ := (unhide hI).top
                  have HI1 := hide (unhide hI).pop
                  have hrl : rr.length + 1 + 2 * (gk + 1) ≤ m + 2 * K := by simpa using hfl
                  clear hE2 hS hfl hI
                  simp only [List.length_cons]
                  go_wp2_with (go_at_call 70; refine Calls.mono (unhide HN _ (unhide HI1).ext j) ?_; rintro e w3 ⟨nb, nc, rfl, r1, r2, r3⟩; have R2 := hide (NxR.new (unhide HI1).fresh.1 (unhide HI1).fresh.2 r2); have I3 := hide ((unhide HI1).on r3); clear r1 r2 r3)
                  have hNL := kNext_len code (j : Int)
                  generalize hNX : kNext code (j : Int) = NX at *
                  go_loopw [11, 86] (fun t11 t wr => ∃ (p : Nat) (it' : List Int) (fr : List Nat) (fa : Option Addr) (fc : Nat), t = .int .i64 p ∧ t11 = .slice fa fr.length fc ∧ p ≤ NX.length ∧ fr.length ≤ rr.length + p ∧ Hd (kSub code hs (NX.drop p) it' fr = some q) ∧ Hd (CyS w wr a cap ha hcap m it' fr fa fc) ∧ Hd (NxR w wr fa nb NX)) (fun _ t _ => NX.length - (intOf t).toNat)
                  case atStart => exact ⟨0, it, rr, _, fc, rfl, rfl, by omega, by omega, HS, I3, R2⟩
                  case round =>
                    clear I3 R2 HS HI1 hE cX cY hct
                    obtain ⟨p, it', fr, fa, fc, rfl, rfl, hp, hfr, hS, hI, hR⟩ := hrel
                    have cX : wr.cell? ⟨w.heap.size, 0, none⟩ = some (.slice a m cap) := k_rowC (unhide hI).rX 0 rfl
                    have cY : wr.cell? ⟨w.heap.size + 1, 0, none⟩ = some (.slice ha m hcap) := k_rowC (unhide hI).rY 0 rfl
                    by_cases hlp : p < NX.length
                    · have hA2 := unhide hS
                      obtain ⟨to, hto⟩ : ∃ to, NX[p]? = some to := ⟨_, List.getElem?_eq_getElem hlp⟩
                      have hd : NX.drop p = to :: NX.drop (p + 1) := by
                        obtain ⟨h1, h2⟩ := List.getElem?_eq_some_iff.1 hto
                        rw [List.drop_eq_getElem_cons h1, h2]
                      rw [hd, kSub] at hA2
                      by_cases ht0 : to < 0
                      · rw [if_pos ht0] at hA2; cases hA2
                      rw [if_neg ht0] at hA2
                      obtain ⟨t, rfl⟩ : ∃ t : Nat, to = t := ⟨to.toNat, by omega⟩
                      rw [show ((t : Int)).toNat = t by omega] at hA2
                      cases hx : it'[t]? with
                      | none => rw [hx] at hA2; cases hA2
                      | some x =>
                      rw [hx] at hA2
                      simp only at hA2
                      by_cases hxb : -1000000 ≤ x ∧ x ≤ 1000000
                      · rw [if_pos hxb] at hA2
                        obtain ⟨nbb, rfl, hcell⟩ := (unhide hR).at hto
                        have cI : wr.cell? ⟨w.heap.size + 1 + 1, t, none⟩ = some (.int .i64 x) := k_rowC (unhide hI).rI t (rH_at hx)
                        have fI := k_rowF (unhide hI).rI t
                        have htl : t < m := by rw [← (unhide hI).len]; exact (List.getElem?_eq_some_iff.1 hx).1
                        have I1 := hide ((unhide hI).setI t (x - 1))
                        have R1 := hide ((unhide hR).setI t (.int .i64 (x - 1)))
                        have dX : (wr.setCell ⟨w.heap.size + 1 + 1, t, none⟩ (.int .i64 (x - 1))).cell? ⟨w.heap.size, 0, none⟩ = some (.slice a m cap) := k_rowC (unhide I1).rX 0 rfl
                        have dY : (wr.setCell ⟨w.heap.size + 1 + 1, t, none⟩ (.int .i64 (x - 1))).cell? ⟨w.heap.size + 1, 0, none⟩ = some (.slice ha m hcap) := k_rowC (unhide I1).rY 0 rfl
                        clear hd hto hx ht0 hI hR
                        by_cases hx1 : x - 1 = 0
                        · rw [if_pos hx1] at hA2
                          cases hcb : kCnt code hs t with
                          | none => rw [hcb] at hA2; cases hA2
                          | some cb =>
                          rw [hcb] at hA2
                          simp only at hA2
                          have HB := hide hcb
                          have hxt : ((x - 1) == 0) = true := by simp [hx1]
                          clear hcb hx1
                          cases cb with
                          | false =>
                            have HA2 : Hd (kSub code hs (NX.drop (p + 1)) (it'.set t (x - 1)) fr = some q) := by unfold Hd; simpa using hA2
                            clear hA2
                            go_wp2_with (go_at_call 72; refine Calls.mono (unhide HCt _ (unhide I1).ext t false (unhide HB) dX dY) ?_; rintro e w4 ⟨rfl, hw⟩; obtain rfl := hw.symm)
                            go_roundw
                            case rel => exact ⟨p + 1, _, fr, fa, fc, by go_num, rfl, by omega, by omega, HA2, I1, R1⟩
                            case measure => simp [intOf]; omega
                          | true =>
                            have HA2 : Hd (kSub code hs (NX.drop (p + 1)) (it'.set t (x - 1)) (t :: fr) = some q) := by unfold Hd; simpa using hA2
                            have hZ : (wr.setCell ⟨w.heap.size + 1 + 1, t, none⟩ (.int .i64 (x - 1))).heap.size = wr.heap.size := by simp [World.setCell]
                            have HZ := hide hZ
                            have HO : Hd (∀ ob, ((wr.setCell ⟨w.heap.size + 1 + 1, t, none⟩ (.int .i64 (x - 1))).alloc ob).ownsRow (w.heap.size + 3) 3 1 (.slice fa fr.length fc) fr.length (ns fr.reverse)) := fun ob => ((unhide I1).on (Ext.alloc _ ob)).own
                            have HL : Hd (∀ ob, w.heap.size + 3 ≤ ((wr.setCell ⟨w.heap.size + 1 + 1, t, none⟩ (.int .i64 (x - 1))).alloc ob).heap.size) := fun ob => Nat.le_trans (unhide I1).fresh.1 (Ext.alloc _ ob).size
                            have HP := hide (fun (w2 : World) (ob : Obj) (g' cap' : Nat) => (unhide I1).push (w2 := w2) (ob := ob) (g' := g') (cap' := cap') (j := t))
                            have HQ := hide (fun (w2 : World) (ob : Obj) (g' : Nat) => (unhide R1).push (w2 := w2) (ob := ob) (g' := g') (m := fr.length) (c := fc))
                            clear hA2 hZ
                            generalize ns fr.reverse = XS at HO HP
                            go_wp2_with (first
                              | (go_at_call 72; refine Calls.mono (unhide HCt _ (unhide I1).ext t true (unhide HB) dX dY) ?_; rintro e w4 ⟨rfl, hw⟩; obtain rfl := hw.symm)
                              | (at_builtin; refine kapp_list rfl (.tmp 106) (.tmp 108) 45 rfl (w.heap.size + 3) 3 i0 (.int .i64 0) 1 8 Tryz.underlying45 (unhide HI) (unhide Z0) (unhide Z1) (unhide Z2) rfl (by decide) fa fr.length fc _ rfl (unhide HO _) ⟨wr.heap.size, 0, none⟩ 1 1 [.int .i64 (t : Int)] rfl (by decide) rfl (k_new _ _ (unhide HZ).symm _ _) (k_one_int _) ?c1 ?c2 (unhide HL _) ?_))
                            case c1 => unfold maxLen; omega
                            case c2 => omega
                            intro g' cap' w3 ho hg hw
                            have HW := hide (unhide HP w3 _ g' cap' hg ho)
                            have HV := hide (unhide HQ w3 _ g' hg (hw.imp id (fun e => by rw [heap_alloc_size, unhide HZ]; exact e)))
                            clear ho hg hw
                            go_wp2_with fail
                            go_roundw
                            case rel => exact ⟨p + 1, _, t :: fr, _, cap', by go_num, rfl, by omega, by simp; omega, HA2, HW, HV⟩
                            case measure => simp [intOf]; omega
                        · rw [if_neg hx1] at hA2
                          have HA2 := hide hA2
                          have hxt : ((x - 1) == 0) = false := by rw [beq_eq_false_iff_ne]; exact hx1
                          clear hA2 hx1
                          go_wp2_with fail
                          go_roundw
                          case rel => exact ⟨p + 1, _, fr, fa, fc, by go_num, rfl, by omega, by omega, HA2, I1, R1⟩
                          case measure => simp [intOf]; omega
                      · rw [if_neg hxb] at hA2; cases hA2
                    · obtain rfl : p = NX.length := by omega
                      have hq := unhide hS
                      rw [List.drop_length, kSub] at hq
                      injection hq with hq
                      subst hq
                      go_wp2_with fail
                      go_roundg gk
                      case measure => omega
                      case rel => exact ⟨lf' - 1, it', fr, fa, fc, by go_num, rfl, HE2, hI, by omega⟩
                · rw [if_neg hlb] at hE2; cases hE2

end Go.Proofs.YtlgdjeiendmniaaGreatDoor.V

namespace Go.Proofs.YtlgdjeiendmniaaGreatDoor.V
open Go.RowKit

/-- The calls of what is come to have their ticks, from a place on. -/
def kTkL (code : List KI) (hs : List Int) : Nat → Nat → Option Bool
  | 0, _ => some true
  | m + 1, j => match hs[j]? with
    | none => none
    | some x => if x = -1 then kTkL code hs m (j + 1) else match kCallT code j with
      | none => none
      | some c => if c then kTkL code hs m (j + 1) else some false
def kTicked (code : List KI) (hs : List Int) (K : Nat) : Option Bool :=
  match kTkL code hs code.length 0 with
  | none => none
  | some c => if c then (match kCyc code hs K with
      | none => none
      | some b => some (!b)) else some false

theorem kTkL_step (code : List KI) (hs : List Int) {n k : Nat} (hk : k < n) : kTkL code hs (n - k) k = match hs[k]? with
    | none => none
    | some x => if x = -1 then kTkL code hs (n - (k + 1)) (k + 1) else match kCallT code k with
      | none => none
      | some c => if c then kTkL code hs (n - (k + 1)) (k + 1) else some false := by
  rw [show n - k = (n - (k + 1)) + 1 by omega, kTkL]

set_option maxHeartbeats 1000000 in
theorem ticked_w (code : List KI) (hs : List Int) (a ha : Option Addr) (cap hcap K : Nat) (r : Bool) (w : World) (hc : RepC w (In w) a code) (hh : RepZ w (In w) ha hs) (hl : hs.length = code.length) (hn : code.length ≤ 1000000) (hK : K ≤ 1000000) (hr : kTicked code hs K = some r) :
    Calls Tryz.prog 23 #[.slice a code.length cap, .slice ha code.length hcap] w fun e w' => e = .returned (.bool r) ∧ Ext w w' := by
  have HCT := hide (fun (W : World) (e : Ext w W) (j : Nat) (r : Bool) => callT_any code j r a cap W (hc.ext e) hn)
  have HCY := hide (fun (W : World) (e : Ext w W) (r : Bool) => cyc_w code hs a ha cap hcap K r W (hc.ext e) (hh.ext e) hl hn hK)
  unfold kTicked at hr
  cases hT : kTkL code hs code.length 0 with
  | none => rw [hT] at hr; cases hr
  | some c =>
  rw [hT] at hr
  simp only at hr
  have HT := hide hT
  have HR := hide hr
  have HH := hide hh
  clear hT hr hc hh
  generalize hN : code.length = n at *
  have HN := hide hN
  clear hN
  go_enter Tryz.func23, Tryz.ntmps23
  go_wp2_with fail
  go_loopw [9] (fun t wr => ∃ (k : Nat), t = .int .i64 k ∧ k ≤ n ∧ Hd (kTkL code hs (n - k) k = some c) ∧ Hd (Ext w wr)) (fun t _ => n - (intOf t).toNat)
  case atStart => exact ⟨0, rfl, by omega, HT, Ext.refl w⟩
  case round =>
    clear HT
    obtain ⟨k, rfl, hk, hE, hX⟩ := hrel
    by_cases hlt : k < n
    · have hE2 := unhide hE
      rw [kTkL_step code hs hlt] at hE2
      cases hx : hs[k]? with
      | none => rw [hx] at hE2; cases hE2
      | some x =>
      rw [hx] at hE2
      simp only at hE2
      obtain ⟨hb, rfl, hcell⟩ : ∃ hb, ha = some ⟨hb, 0, none⟩ ∧ wr.cell? ⟨hb, k, none⟩ = some (.int .i64 x) := by
        rcases (unhide HH).ext (unhide hX) with h | ⟨hb, e, _, hc⟩
        · rw [h] at hx; simp at hx
        · exact ⟨hb, e, hc k x hx⟩
      clear hx
      by_cases hx1 : x = -1
      · rw [if_pos hx1] at hE2
        have HE2 := hide hE2
        have hxf : (x != -1) = false := by simp [hx1]
        clear hE2 hx1
        go_wp2_with fail
        go_roundw
        case rel => exact ⟨k + 1, by go_num, by omega, HE2, hX⟩
        case measure => simp [intOf]; omega
      · rw [if_neg hx1] at hE2
        have hxf : (x != -1) = true := by simp [hx1]
        clear hx1
        cases hq : kCallT code k with
        | none => rw [hq] at hE2; cases hE2
        | some b =>
        rw [hq] at hE2
        simp only at hE2
        have HQ := hide hq
        clear hq
        cases b with
        | true =>
          have HE2 : Hd (kTkL code hs (n - (k + 1)) (k + 1) = some c) := hE2
          clear hE2
          go_wp2_with (go_at_call 45; refine Calls.mono (unhide HCT _ (unhide hX) k true (unhide HQ)) ?_; rintro e w4 ⟨rfl, hw⟩; have X4 := hide ((unhide hX).trans hw); clear hw)
          go_roundw
          case rel => exact ⟨k + 1, by go_num, by omega, HE2, X4⟩
          case measure => simp [intOf]; omega
        | false =>
          have hcf : Hd (r = false) := by
            have e : c = false := by injection hE2 with e; exact e.symm
            have := unhide HR
            rw [e] at this
            injection this with this
            exact this.symm
          clear hE2
          go_wp2_with (go_at_call 45; refine Calls.mono (unhide HCT _ (unhide hX) k false (unhide HQ)) ?_; rintro e w4 ⟨rfl, hw⟩; have X4 := hide ((unhide hX).trans hw); clear hw)
          rw [unhide hcf]
          go_ret
          exact ⟨rfl, unhide X4⟩
    · obtain rfl : k = n := by omega
      have hq := unhide hE
      rw [Nat.sub_self, kTkL] at hq
      injection hq with hq
      subst hq
      have hr := unhide HR
      simp only [if_true] at hr
      cases hcy : kCyc code hs K with
      | none => rw [hcy] at hr; cases hr
      | some b =>
      rw [hcy] at hr
      injection hr with hr
      have HB := hide hcy
      have HF := hide hr
      clear hcy hr hE hlt
      go_wp2_with (go_at_call 46; refine Calls.mono (unhide HCY _ (unhide hX) b (unhide HB)) ?_; rintro e w4 ⟨rfl, hw⟩; have X4 := hide ((unhide hX).trans hw); clear hw)
      rw [← unhide HF]
      go_ret
      exact ⟨rfl, unhide X4⟩

end Go.Proofs.YtlgdjeiendmniaaGreatDoor.V

namespace Go.Proofs.YtlgdjeiendmniaaGreatDoor.V
open Go.RowKit

/-- A function. -/
structure KF where
  nm : ByteArray
  ps : Int
  lc : Int
  cs : List PV
  code : List KI
abbrev kfV (f : KF) (ca : Option Addr) (cc : Nat) (ka : Option Addr) (kc : Nat) : Value := .agg #[.string f.nm, .int .i64 f.ps, .int .i64 f.lc, .slice ca f.cs.length cc, .slice ka f.code.length kc]

/-- Has a list of n something at that place? -/
def kPl (k n : Int) : Bool := decide (0 ≤ k ∧ k < n)
/-- Has i an Op that it may have, and an A that goes with it? -/
def kMay (f : KF) (i : KI) : Bool :=
  if i.op = 1 then kPl i.a f.cs.length else if i.op = 2 ∨ i.op = 3 then kPl i.a f.lc else if i.op = 7 ∨ i.op = 8 then kPl i.a f.code.length
  else if i.op = 5 then kAr i.a == 2 else if i.op = 6 then kAr i.a == 1 else if i.op = 12 then kPl (i.a - 1) 4095 else if i.op = 13 then kPl i.a 65
  else if i.op = 4 ∨ i.op = 10 ∨ i.op = 11 then i.a == 0 else false
/-- Is it an instruction that f may have? -/
def kStand (fns : List KF) (f : KF) (i : KI) : Bool :=
  if i.op = 9 then (kPl i.a fns.length && (match fns[i.a.toNat]? with
    | none => false
    | some g => i.b == g.ps))
  else (i.b == 0 && kMay f i)
def kForm (fns : List KF) (fn : Int) : Bool :=
  kPl fn fns.length && (match fns[fn.toNat]? with
    | none => false
    | some f => kPl f.ps 9 && (decide (f.ps ≤ f.lc) && (decide (f.lc ≤ 64) && (decide (0 < f.code.length ∧ f.code.length ≤ 1000) && (f.cs.all okv && f.code.all (kStand fns f))))))

set_option maxHeartbeats 2000000 in
theorem mayTake_any (f : KF) (i : KI) (ca ka : Option Addr) (cc kc : Nat) (w : World) (h1 : f.cs.length ≤ 1000000) (h2 : f.code.length ≤ 1000000) :
    Calls Tryz.prog 99 #[kfV f ca cc ka kc, kiV i] w fun e w' => e = .returned (.bool (kMay f i)) ∧ Ext w w' := by
  have HP := hide (fun (k n : Int) (W : World) => isPlace_any k n W)
  have HA := hide (fun (k : Int) (W : World) => arityK k W)
  obtain ⟨p, x, y⟩ := i
  unfold kMay
  simp only
  have hE : ∀ (o1 o2 : Obj), Ext w ((w.alloc o1).alloc o2) := fun o1 o2 => (Ext.alloc _ _).trans (Ext.alloc _ _)
  have HE := hide hE
  clear hE
  generalize hCS : f.cs.length = CS at *
  generalize hKS : f.code.length = KS at *
  rcases op_cases p with rfl | rfl | rfl | rfl | rfl | rfl | rfl | rfl | rfl | rfl | rfl | rfl | rfl | ⟨n1, n2, n3, n4, n5, n6, n7, n8, n9, n10, n11, n12, n13⟩
  case inr.inr.inr.inr.inr.inr.inr.inr.inr.inr.inr.inl =>
    have hE : (kPl (x - 1) 4095 = false ∧ x < 1) ∨ (kPl (x - 1) 4095 = true ∧ 1 ≤ x ∧ x ≤ 4095) ∨ (kPl (x - 1) 4095 = false ∧ 1 ≤ x ∧ 4095 < x) := by
      rcases (show x < 1 ∨ (1 ≤ x ∧ x ≤ 4095) ∨ (1 ≤ x ∧ 4095 < x) by omega) with h | h | h
      · exact Or.inl ⟨decide_eq_false (by omega), h⟩
      · exact Or.inr (Or.inl ⟨decide_eq_true (by omega), h⟩)
      · exact Or.inr (Or.inr ⟨decide_eq_false (by omega), h⟩)
    rcases hE with ⟨e, h⟩ | ⟨e, h, h'⟩ | ⟨e, h, h'⟩
    all_goals
      have E := hide e
      clear e
      go_enter Tryz.func99, Tryz.ntmps99
      go_wp2_with fail
      go_ret
      exact ⟨ret_bool (by simp [unhide E]; try omega), unhide HE _ _⟩
  case inr.inr.inr.inr.inr.inr.inr.inr.inr.inr.inr.inr.inl =>
    have hE : (kPl x 65 = false ∧ x < 0) ∨ (kPl x 65 = true ∧ 0 ≤ x ∧ x ≤ 64) ∨ (kPl x 65 = false ∧ 0 ≤ x ∧ 64 < x) := by
      rcases (show x < 0 ∨ (0 ≤ x ∧ x ≤ 64) ∨ (0 ≤ x ∧ 64 < x) by omega) with h | h | h
      · exact Or.inl ⟨decide_eq_false (by omega), h⟩
      · exact Or.inr (Or.inl ⟨decide_eq_true (by omega), h⟩)
      · exact Or.inr (Or.inr ⟨decide_eq_false (by omega), h⟩)
    rcases hE with ⟨e, h⟩ | ⟨e, h, h'⟩ | ⟨e, h, h'⟩
    all_goals
      have E := hide e
      clear e
      go_enter Tryz.func99, Tryz.ntmps99
      go_wp2_with fail
      go_ret
      exact ⟨ret_bool (by simp [unhide E]; try omega), unhide HE _ _⟩
  all_goals
    go_enter Tryz.func99, Tryz.ntmps99
    go_wp2_with (first | (go_at_call 39; refine Calls.mono (unhide HP _ _ _) ?_; rintro e w1 ⟨rfl, hw⟩; obtain rfl := hw.symm) | (go_at_call 81; refine Calls.mono (unhide HA _ _) ?_; rintro e w1 ⟨rfl, hw⟩; obtain rfl := hw.symm))
    go_ret
    exact ⟨ret_bool (by simp [kPl, *]), unhide HE _ _⟩

/-- A program's functions, five cells each. -/
def RepP (w : World) (F : Nat → Prop) (a : Option Addr) (l : List KF) : Prop :=
  l = [] ∨ ∃ b o, a = some ⟨b, o, none⟩ ∧ F b ∧ ∀ j f, l[j]? = some f → ∃ ca cc ka kc, w.cell? ⟨b, o + j * 5, none⟩ = some (.string f.nm) ∧ w.cell? ⟨b, o + j * 5 + 1, none⟩ = some (.int .i64 f.ps) ∧ w.cell? ⟨b, o + j * 5 + 2, none⟩ = some (.int .i64 f.lc) ∧
    w.cell? ⟨b, o + j * 5 + 3, none⟩ = some (.slice ca f.cs.length cc) ∧ w.cell? ⟨b, o + j * 5 + 4, none⟩ = some (.slice ka f.code.length kc) ∧ RepL w F f.cs ca ∧ RepC w F ka f.code
theorem RepP.to {w w' : World} {F F' : Nat → Prop} (h : ∀ b, F b → F' b ∧ w'.heap[b]? = w.heap[b]?) {l : List KF} {a : Option Addr} (hr : RepP w F a l) : RepP w' F' a l := by
  rcases hr with hr | ⟨b, o, rfl, hf, hc⟩
  · exact Or.inl hr
  · refine Or.inr ⟨b, o, rfl, (h b hf).1, fun j i hi => ?_⟩
    have hk : ∀ x, w'.cell? ⟨b, x, none⟩ = w.cell? ⟨b, x, none⟩ := fun x => World.cell?_of_block (w := w) (h b hf).2
    obtain ⟨ca, cc, ka, kc, c0, c1, c2, c3, c4, r1, r2⟩ := hc j i hi
    refine ⟨ca, cc, ka, kc, ?_, ?_, ?_, ?_, ?_, RepL.to h _ _ r1, r2.to h⟩
    all_goals rw [hk]; assumption
theorem RepP.ext {w w' : World} {l : List KF} {a : Option Addr} (hr : RepP w (In w) a l) (h : Ext w w') : RepP w' (In w') a l :=
  hr.to fun b hb => ⟨Nat.lt_of_lt_of_le hb h.size, h.block b hb⟩
theorem RepP.at {w : World} {F : Nat → Prop} {l : List KF} {a : Option Addr} (hr : RepP w F a l) {j : Nat} {f : KF} (h : l[j]? = some f) :
    ∃ b o ca cc ka kc, a = some ⟨b, o, none⟩ ∧ F b ∧ w.cell? ⟨b, o + j * 5, none⟩ = some (.string f.nm) ∧ w.cell? ⟨b, o + j * 5 + 1, none⟩ = some (.int .i64 f.ps) ∧ w.cell? ⟨b, o + j * 5 + 2, none⟩ = some (.int .i64 f.lc) ∧
    w.cell? ⟨b, o + j * 5 + 3, none⟩ = some (.slice ca f.cs.length cc) ∧ w.cell? ⟨b, o + j * 5 + 4, none⟩ = some (.slice ka f.code.length kc) ∧ RepL w F f.cs ca ∧ RepC w F ka f.code := by
  rcases hr with rfl | ⟨b, o, rfl, hf, hc⟩
  · simp at h
  · obtain ⟨ca, cc, ka, kc, r⟩ := hc j f h
    exact ⟨b, o, ca, cc, ka, kc, rfl, hf, r⟩
abbrev kpV (pa : Option Addr) (n pc : Nat) (m : Int) : Value := .agg #[.slice pa n pc, .int .i64 m]

set_option maxHeartbeats 2000000 in
theorem mayStand_any (fns : List KF) (f : KF) (i : KI) (pa ca ka : Option Addr) (pc cc kc : Nat) (m : Int) (w : World) (hp : RepP w (In w) pa fns) (h0 : fns.length ≤ 1000000) (h1 : f.cs.length ≤ 1000000) (h2 : f.code.length ≤ 1000000) :
    Calls Tryz.prog 68 #[kpV pa fns.length pc m, kfV f ca cc ka kc, kiV i] w fun e w' => e = .returned (.bool (kStand fns f i)) ∧ Ext w w' := by
  have HP := hide (fun (k n : Int) (W : World) => isPlace_any k n W)
  have HM := hide (fun (W : World) => mayTake_any f i ca ka cc kc W h1 h2)
  have HE : Hd (∀ (o1 o2 o3 : Obj) (k : Nat), Ext w ((((w.alloc o1).alloc o2).alloc o3).drewN k)) := fun o1 o2 o3 k => by
    have e : ∀ (k : Nat) (W : World), Ext w W → Ext w (W.drewN k) := by
      intro k
      induction k with
      | zero => intro W h; exact h
      | succ k ih => intro W h; exact Ext.drew (ih W h)
    exact e k _ ((Ext.alloc _ _).trans ((Ext.alloc _ _).trans (Ext.alloc _ _)))
  unfold kStand
  generalize kMay f i = KM at HM ⊢
  obtain ⟨FN, FP, FL, FC, FK⟩ := f
  obtain ⟨p, x, y⟩ := i
  simp only at h1 h2 HM ⊢
  generalize FC.length = CS at *
  generalize FK.length = KS at *
  by_cases hp9 : p = 9
  · subst hp9
    rw [if_pos rfl]
    by_cases hx : 0 ≤ x ∧ x < (fns.length : Int)
    · obtain ⟨z, rfl⟩ : ∃ z : Nat, x = z := ⟨x.toNat, by omega⟩
      obtain ⟨g, hg⟩ : ∃ g, fns[z]? = some g := ⟨_, List.getElem?_eq_getElem (by omega)⟩
      obtain ⟨b, o, ga, gc, gka, gkc, rfl, hf, c0, c1, c2, c3, c4, _, _⟩ := hp.at hg
      have hk : kPl (z : Int) fns.length = true := decide_eq_true hx
      rw [hk, show ((z : Int)).toNat = z by omega, hg]
      have hz : z < fns.length := by omega
      have q1 := fun o1 o2 o3 => ((Ext.alloc w o1).trans ((Ext.alloc _ o2).trans (Ext.alloc _ o3))).cell c1
      have HPt : Hd (∀ W, Calls Tryz.prog 39 #[.int .i64 (z : Int), .int .i64 (fns.length : Int)] W fun e w' => e = .returned (.bool true) ∧ w' = W) := fun W => by
        have h := isPlace_any (z : Int) fns.length W
        rw [decide_eq_true hx] at h
        exact h
      clear hg hk hx hp c0 c2 c3 c4
      generalize fns.length = N at *
      simp only [Bool.true_and]
      go_enter Tryz.func68, Tryz.ntmps68
      go_wp2_with fail
      go_quiet ((go_at_call 39; exact Calls.quiet_of_same (unhide HPt _)))
      go_wp2_with fail
      go_ret
      exact ⟨rfl, unhide HE _ _ _ _⟩
    · have HPt : Hd (∀ W, Calls Tryz.prog 39 #[.int .i64 x, .int .i64 (fns.length : Int)] W fun e w' => e = .returned (.bool false) ∧ w' = W) := fun W => by
        have h := isPlace_any x fns.length W
        rw [decide_eq_false hx] at h
        exact h
      have hk : kPl x fns.length = false := decide_eq_false hx
      rw [hk]
      clear hk hx hp
      generalize fns.length = N at *
      simp only [Bool.false_and]
      go_enter Tryz.func68, Tryz.ntmps68
      go_wp2_with fail
      go_quiet ((go_at_call 39; exact Calls.quiet_of_same (unhide HPt _)))
      go_wp2_with fail
      go_ret
      exact ⟨rfl, unhide HE _ _ _ _⟩
  · rw [if_neg hp9]
    have hpf : (p == 9) = false := by rw [beq_eq_false_iff_ne]; exact hp9
    clear hp9 hp
    by_cases hy : y = 0
    · have hyt : (y == 0) = true := by simp [hy]
      rw [hyt]
      simp only [Bool.true_and]
      clear hy
      go_enter Tryz.func68, Tryz.ntmps68
      go_wp2_with (go_at_call 99; refine Calls.mono (unhide HM _) ?_; rintro e w1 ⟨rfl, hw⟩; have X := hide hw; clear hw)
      go_ret
      exact ⟨rfl, (unhide HE _ _ _ 0).trans (unhide X)⟩
    · have hyt : (y == 0) = false := by rw [beq_eq_false_iff_ne]; exact hy
      rw [hyt]
      simp only [Bool.false_and]
      clear hy
      go_enter Tryz.func68, Tryz.ntmps68
      go_wp2_with fail
      go_ret
      exact ⟨rfl, unhide HE _ _ _ 0⟩

end Go.Proofs.YtlgdjeiendmniaaGreatDoor.V

namespace Go.Proofs.YtlgdjeiendmniaaGreatDoor.V
open Go.RowKit

theorem all_drop {α : Type} (p : α → Bool) {l : List α} {k : Nat} {x : α} (h : l[k]? = some x) : (l.drop k).all p = (p x && (l.drop (k + 1)).all p) := by
  obtain ⟨h1, h2⟩ := List.getElem?_eq_some_iff.1 h
  rw [List.drop_eq_getElem_cons h1, h2, List.all_cons]

set_option maxHeartbeats 1000000 in
theorem consts_any (cs : List PV) (a : Option Addr) (c : Nat) (w : World) (hr : RepL w (In w) cs a) (hn : cs.length ≤ 1000000) :
    Calls Tryz.prog 40 #[.slice a cs.length c] w fun e w' => e = .returned (.bool (cs.all okv)) ∧ Ext w w' := by
  have HO := hide (fun (p : PV) (v : Value) (W : World) => okv_any p v W)
  have HR := hide hr
  clear hr
  obtain ⟨T, hT⟩ : ∃ T, T = cs.all okv := ⟨_, rfl⟩
  rw [← hT]
  have HT : Hd ((cs.drop 0).all okv = T) := hT.symm
  clear hT
  generalize hN : cs.length = n at *
  go_enter Tryz.func40, Tryz.ntmps40
  go_wp2_with fail
  go_loopw [7] (fun t wr => ∃ (k : Nat), t = .int .i64 k ∧ k ≤ n ∧ Hd ((cs.drop k).all okv = T) ∧ Hd (Ext w wr)) (fun t _ => n - (intOf t).toNat)
  case atStart => exact ⟨0, rfl, by omega, HT, Ext.refl w⟩
  case round =>
    clear HT
    obtain ⟨k, rfl, hk, hE, hX⟩ := hrel
    by_cases hlt : k < n
    · obtain ⟨x, hx⟩ : ∃ x, cs[k]? = some x := ⟨_, List.getElem?_eq_getElem (by omega)⟩
      have hE2 := unhide hE
      rw [all_drop okv hx] at hE2
      obtain ⟨b, o, a', cap', rfl, el⟩ := ((unhide HR).ext (unhide hX)).get k x hx
      have c0 := el.c0
      have c1 := el.c1
      have c2 := el.c2
      have c3 := el.c3
      have c4 := el.c4
      have HRp := hide el.rep
      clear el hx
      obtain ⟨xk, xn, xr, xi, xs, xl⟩ := x
      simp only at c0 c1 c2 c3 c4 HRp
      cases hq : okv ⟨xk, xn, xr, xi, xs, xl⟩ with
      | true =>
        have HQ := hide hq
        have HE2 : Hd ((cs.drop (k + 1)).all okv = T) := by rw [hq, Bool.true_and] at hE2; exact hE2
        clear hE2 hq
        go_wp2_with (go_at_call 67; refine Calls.mono (unhide HO _ _ _ ((unhide HRp).ext (Ext.alloc _ _))) ?_; rw [unhide HQ]; rintro e w1 ⟨rfl, hw⟩; have X1 := hide (((unhide hX).trans (Ext.alloc _ _)).trans hw); clear hw)
        go_roundw
        case rel => exact ⟨k + 1, by go_num, by omega, HE2, X1⟩
        case measure => simp [intOf]; omega
      | false =>
        have HQ := hide hq
        have HE2 : Hd (T = false) := by rw [hq, Bool.false_and] at hE2; exact hE2.symm
        clear hE2 hq
        go_wp2_with (go_at_call 67; refine Calls.mono (unhide HO _ _ _ ((unhide HRp).ext (Ext.alloc _ _))) ?_; rw [unhide HQ]; rintro e w1 ⟨rfl, hw⟩; have X1 := hide (((unhide hX).trans (Ext.alloc _ _)).trans hw); clear hw)
        rw [unhide HE2]
        go_ret
        exact ⟨rfl, unhide X1⟩
    · obtain rfl : k = n := by omega
      have HE2 : Hd (T = true) := by
        have := unhide hE
        rw [List.drop_eq_nil_of_le (by omega)] at this
        exact this.symm
      go_wp2_with fail
      rw [unhide HE2]
      go_ret
      exact ⟨rfl, unhide hX⟩

set_option maxHeartbeats 1000000 in
theorem operands_any (fns : List KF) (f : KF) (pa ca ka : Option Addr) (pc cc kc : Nat) (m : Int) (w : World) (hp : RepP w (In w) pa fns) (hr : RepC w (In w) ka f.code) (h0 : fns.length ≤ 1000000) (h1 : f.cs.length ≤ 1000000) (h2 : f.code.length ≤ 1000000) :
    Calls Tryz.prog 41 #[kpV pa fns.length pc m, kfV f ca cc ka kc] w fun e w' => e = .returned (.bool (f.code.all (kStand fns f))) ∧ Ext w w' := by
  have HO := hide (fun (i : KI) (W : World) (x : Ext w W) => mayStand_any fns f i pa ca ka pc cc kc m W (hp.ext x) h0 h1 h2)
  have HR := hide hr
  clear hr hp
  obtain ⟨T, hT⟩ : ∃ T, T = f.code.all (kStand fns f) := ⟨_, rfl⟩
  rw [← hT]
  have HT : Hd ((f.code.drop 0).all (kStand fns f) = T) := hT.symm
  clear hT
  obtain ⟨FN, FP, FL, FC, FK⟩ := f
  simp only [kfV, kpV, kiV] at h1 h2 HO HR HT ⊢
  generalize hN : FK.length = n at *
  generalize hCS : FC.length = CS at *
  generalize hPS : fns.length = NP at *
  have HX0 : Hd (∀ o1 o2 : Obj, Ext w ((w.alloc o1).alloc o2)) := fun o1 o2 => (Ext.alloc _ _).trans (Ext.alloc _ _)
  go_enter Tryz.func41, Tryz.ntmps41
  go_wp2_with fail
  go_loopw [10] (fun t wr => ∃ (k : Nat), t = .int .i64 k ∧ k ≤ n ∧ Hd ((FK.drop k).all (kStand fns ⟨FN, FP, FL, FC, FK⟩) = T) ∧ Hd (Ext ((w.alloc (.cells #[.slice pa NP pc, .int .i64 m] 24)).alloc (.cells #[.string FN, .int .i64 FP, .int .i64 FL, .slice ca CS cc, .slice ka n kc] 31)) wr)) (fun t _ => n - (intOf t).toNat)
  case atStart => exact ⟨0, rfl, by omega, HT, Ext.refl _⟩
  case round =>
    clear HT
    obtain ⟨k, rfl, hk, hE, hX⟩ := hrel
    have hXw : Hd (Ext w wr) := (unhide HX0 _ _).trans (unhide hX)
    have p0 := (unhide hX).cell ((Ext.alloc _ (.cells #[.string FN, .int .i64 FP, .int .i64 FL, .slice ca CS cc, .slice ka n kc] 31)).cell (cell_box w #[.slice pa NP pc, .int .i64 m] 24 0 rfl))
    have p1 := (unhide hX).cell ((Ext.alloc _ (.cells #[.string FN, .int .i64 FP, .int .i64 FL, .slice ca CS cc, .slice ka n kc] 31)).cell (cell_box w #[.slice pa NP pc, .int .i64 m] 24 1 rfl))
    have f0 := (unhide hX).box 0 rfl
    have f1 := (unhide hX).box 1 rfl
    have f2 := (unhide hX).box 2 rfl
    have f3 := (unhide hX).box 3 rfl
    have f4 := (unhide hX).box 4 rfl
    simp only [heap_alloc_size] at f0 f1 f2 f3 f4
    have P0 := fun ob => (Ext.alloc wr ob).cell p0
    have P1 := fun ob => (Ext.alloc wr ob).cell p1
    have F0 := fun ob => (Ext.alloc wr ob).cell f0
    have F1 := fun ob => (Ext.alloc wr ob).cell f1
    have F2 := fun ob => (Ext.alloc wr ob).cell f2
    have F3 := fun ob => (Ext.alloc wr ob).cell f3
    have F4 := fun ob => (Ext.alloc wr ob).cell f4
    by_cases hlt : k < n
    · obtain ⟨x, hx⟩ : ∃ x, FK[k]? = some x := ⟨_, List.getElem?_eq_getElem (by omega)⟩
      have hE2 := unhide hE
      rw [all_drop _ hx] at hE2
      obtain ⟨b, o, rfl, hf, c0, c1, c2⟩ := ((unhide HR).ext (unhide hXw)).at hx
      have HM := hide (fun (W : World) (e : Ext w W) => unhide HO x W e)
      clear hx hf
      obtain ⟨xo, xa, xb⟩ := x
      simp only at c0 c1 c2 HM hE2
      cases hq : kStand fns ⟨FN, FP, FL, FC, FK⟩ ⟨xo, xa, xb⟩ with
      | true =>
        rw [hq] at HM
        have HE2 : Hd ((FK.drop (k + 1)).all (kStand fns ⟨FN, FP, FL, FC, FK⟩) = T) := by rw [hq, Bool.true_and] at hE2; exact hE2
        clear hE2 hq
        go_wp2_with (go_at_call 68; refine Calls.mono (unhide HM _ ((unhide hXw).trans (Ext.alloc _ _))) ?_; rintro e w1 ⟨rfl, hw⟩; have X1 := hide (((unhide hX).trans (Ext.alloc _ _)).trans hw); clear hw)
        go_roundw
        case rel => exact ⟨k + 1, by go_num, by omega, HE2, X1⟩
        case measure => simp [intOf]; omega
      | false =>
        rw [hq] at HM
        have HE2 : Hd (T = false) := by rw [hq, Bool.false_and] at hE2; exact hE2.symm
        clear hE2 hq
        go_wp2_with (go_at_call 68; refine Calls.mono (unhide HM _ ((unhide hXw).trans (Ext.alloc _ _))) ?_; rintro e w1 ⟨rfl, hw⟩; have X1 := hide (((unhide hX).trans (Ext.alloc _ _)).trans hw); clear hw)
        rw [unhide HE2]
        go_ret
        exact ⟨rfl, (unhide HX0 _ _).trans (unhide X1)⟩
    · obtain rfl : k = n := by omega
      have HE2 : Hd (T = true) := by
        have := unhide hE
        rw [List.drop_eq_nil_of_le (by omega)] at this
        exact this.symm
      go_wp2_with fail
      rw [unhide HE2]
      go_ret
      exact ⟨rfl, unhide hXw⟩

theorem kForm_at {fns : List KF} {j : Nat} {f : KF} (h : fns[j]? = some f) : kForm fns (j : Int) = (kPl f.ps 9 && (decide (f.ps ≤ f.lc) && (decide (f.lc ≤ 64) && (decide (0 < f.code.length ∧ f.code.length ≤ 1000) && (f.cs.all okv && f.code.all (kStand fns f)))))) := by
  unfold kForm
  have hj : j < fns.length := (List.getElem?_eq_some_iff.1 h).1
  rw [show kPl (j : Int) fns.length = true from decide_eq_true (by omega), show ((j : Int)).toNat = j by omega, h, Bool.true_and]
theorem kForm_out {fns : List KF} {k : Int} (h : ¬ (0 ≤ k ∧ k < (fns.length : Int))) : kForm fns k = false := by
  unfold kForm
  rw [show kPl k fns.length = false from decide_eq_false h, Bool.false_and]

set_option maxHeartbeats 1000000 in
theorem hasForm_any (fns : List KF) (fn : Int) (pa : Option Addr) (pc : Nat) (m : Int) (w : World) (hp : RepP w (In w) pa fns) (h0 : fns.length ≤ 1000000) (h1 : ∀ f ∈ fns, f.cs.length ≤ 1000000 ∧ f.code.length ≤ 1000000) :
    Calls Tryz.prog 21 #[kpV pa fns.length pc m, .int .i64 fn] w fun e w' => e = .returned (.bool (kForm fns fn)) ∧ Ext w w' := by
  by_cases hx : 0 ≤ fn ∧ fn < (fns.length : Int)
  · obtain ⟨z, rfl⟩ : ∃ z : Nat, fn = z := ⟨fn.toNat, by omega⟩
    obtain ⟨f, hf⟩ : ∃ f, fns[z]? = some f := ⟨_, List.getElem?_eq_getElem (by omega)⟩
    obtain ⟨b, o, ca, cc, ka, kc, rfl, _, c0, c1, c2, c3, c4, r1, r2⟩ := hp.at hf
    obtain ⟨hl1, hl2⟩ := h1 f (List.mem_of_getElem? hf)
    rw [kForm_at hf]
    have HPt : Hd (∀ W, Calls Tryz.prog 39 #[.int .i64 (z : Int), .int .i64 (fns.length : Int)] W fun e w' => e = .returned (.bool true) ∧ w' = W) := fun W => by
      have h := isPlace_any (z : Int) fns.length W
      rw [decide_eq_true hx] at h
      exact h
    have HC := hide (fun (W : World) (x : Ext w W) => consts_any f.cs ca cc W (r1.ext x) hl1)
    have HO := hide (fun (W : World) (x : Ext w W) => operands_any fns f _ ca ka pc cc kc m W (hp.ext x) (r2.ext x) h0 hl1 hl2)
    have hz : z < fns.length := by omega
    have q0 := fun ob => (Ext.alloc w ob).cell c0
    have q1 := fun ob => (Ext.alloc w ob).cell c1
    have q2 := fun ob => (Ext.alloc w ob).cell c2
    have q3 := fun ob => (Ext.alloc w ob).cell c3
    have q4 := fun ob => (Ext.alloc w ob).cell c4
    have HX0 : Hd (∀ o1 o2 : Obj, Ext w ((w.alloc o1).alloc o2)) := fun o1 o2 => (Ext.alloc _ _).trans (Ext.alloc _ _)
    clear hf hp h1 r1 r2 hx c0 c1 c2 c3 c4
    generalize hA : f.cs.all okv = A at *
    generalize hB : f.code.all (kStand fns f) = B at *
    clear hA hB
    obtain ⟨FN, FP, FL, FC, FK⟩ := f
    simp only [kfV, kpV] at q0 q1 q2 q3 q4 HC HO hl1 hl2 ⊢
    generalize FC.length = CS at *
    generalize FK.length = KS at *
    generalize fns.length = NP at *
    have hcase : (kPl FP 9 = false ∧ FP < 0) ∨ (kPl FP 9 = false ∧ 0 ≤ FP ∧ 8 < FP) ∨ (kPl FP 9 = true ∧ 0 ≤ FP ∧ FP ≤ 8) := by
      rcases (show FP < 0 ∨ (0 ≤ FP ∧ 8 < FP) ∨ (0 ≤ FP ∧ FP ≤ 8) by omega) with h | h | h
      · exact Or.inl ⟨decide_eq_false (by omega), h⟩
      · exact Or.inr (Or.inl ⟨decide_eq_false (by omega), h⟩)
      · exact Or.inr (Or.inr ⟨decide_eq_true (by omega), h⟩)
    rcases hcase with ⟨e1, g1⟩ | ⟨e1, g1, g2⟩ | ⟨e1, g1, g2⟩
    · rw [e1, Bool.false_and]
      clear e1
      go_enter Tryz.func21, Tryz.ntmps21
      go_wp2_with (go_at_call 39; refine Calls.mono (unhide HPt _) ?_; rintro e w1 ⟨rfl, hw⟩; obtain rfl := hw.symm)
      go_ret
      exact ⟨rfl, unhide HX0 _ _⟩
    · rw [e1, Bool.false_and]
      clear e1
      go_enter Tryz.func21, Tryz.ntmps21
      go_wp2_with (go_at_call 39; refine Calls.mono (unhide HPt _) ?_; rintro e w1 ⟨rfl, hw⟩; obtain rfl := hw.symm)
      go_ret
      exact ⟨rfl, unhide HX0 _ _⟩
    rw [e1, Bool.true_and]
    clear e1
    by_cases g3 : FP ≤ FL
    case neg =>
      rw [decide_eq_false g3, Bool.false_and]
      go_enter Tryz.func21, Tryz.ntmps21
      go_wp2_with (go_at_call 39; refine Calls.mono (unhide HPt _) ?_; rintro e w1 ⟨rfl, hw⟩; obtain rfl := hw.symm)
      go_ret
      exact ⟨rfl, unhide HX0 _ _⟩
    rw [decide_eq_true g3, Bool.true_and]
    by_cases g4 : FL ≤ 64
    case neg =>
      rw [decide_eq_false g4, Bool.false_and]
      go_enter Tryz.func21, Tryz.ntmps21
      go_wp2_with (go_at_call 39; refine Calls.mono (unhide HPt _) ?_; rintro e w1 ⟨rfl, hw⟩; obtain rfl := hw.symm)
      go_ret
      exact ⟨rfl, unhide HX0 _ _⟩
    rw [decide_eq_true g4, Bool.true_and]
    by_cases g5 : KS = 0
    · rw [decide_eq_false (by omega), Bool.false_and]
      subst g5
      go_enter Tryz.func21, Tryz.ntmps21
      go_wp2_with (go_at_call 39; refine Calls.mono (unhide HPt _) ?_; rintro e w1 ⟨rfl, hw⟩; obtain rfl := hw.symm)
      go_ret
      exact ⟨rfl, unhide HX0 _ _⟩
    have g5' : ((KS : Int) == 0) = false := by rw [beq_eq_false_iff_ne]; omega
    by_cases g6 : KS ≤ 1000
    case neg =>
      rw [decide_eq_false (by omega), Bool.false_and]
      clear g5
      go_enter Tryz.func21, Tryz.ntmps21
      go_wp2_with (go_at_call 39; refine Calls.mono (unhide HPt _) ?_; rintro e w1 ⟨rfl, hw⟩; obtain rfl := hw.symm)
      go_ret
      exact ⟨rfl, unhide HX0 _ _⟩
    rw [decide_eq_true (by omega), Bool.true_and]
    clear g5
    cases A with
    | false =>
      rw [Bool.false_and]
      go_enter Tryz.func21, Tryz.ntmps21
      go_wp2_with (first
        | (go_at_call 39; refine Calls.mono (unhide HPt _) ?_; rintro e w1 ⟨rfl, hw⟩; obtain rfl := hw.symm)
        | (go_at_call 40; refine Calls.mono (unhide HC _ (unhide HX0 _ _)) ?_; rintro e w1 ⟨rfl, hw⟩; have X1 := hide ((unhide HX0 _ _).trans hw); clear hw))
      go_ret
      exact ⟨rfl, unhide X1⟩
    | true =>
      rw [Bool.true_and]
      go_enter Tryz.func21, Tryz.ntmps21
      go_wp2_with (first
        | (go_at_call 39; refine Calls.mono (unhide HPt _) ?_; rintro e w1 ⟨rfl, hw⟩; obtain rfl := hw.symm)
        | (go_at_call 40; refine Calls.mono (unhide HC _ (unhide HX0 _ _)) ?_; rintro e w1 ⟨rfl, hw⟩; have X1 := hide ((unhide HX0 _ _).trans hw); have f0 := hw.box 0 rfl; have f1 := hw.box 1 rfl; have f2 := hw.box 2 rfl; have f3 := hw.box 3 rfl; have f4 := hw.box 4 rfl; have k0 := hw.cell ((Ext.alloc _ _).cell (cell_box w _ _ 0 rfl)); have k1 := hw.cell ((Ext.alloc _ _).cell (cell_box w _ _ 1 rfl)); simp only [heap_alloc_size] at f0 f1 f2 f3 f4; clear hw)
        | (go_at_call 41; refine Calls.mono (unhide HO w1 (unhide X1)) ?_; rintro e w2 ⟨rfl, hw⟩; have X2 := hide ((unhide X1).trans hw); clear hw))
      go_ret
      exact ⟨rfl, unhide X2⟩
  · rw [kForm_out hx]
    have HPt : Hd (∀ W, Calls Tryz.prog 39 #[.int .i64 fn, .int .i64 (fns.length : Int)] W fun e w' => e = .returned (.bool false) ∧ w' = W) := fun W => by
      have h := isPlace_any fn fns.length W
      rw [decide_eq_false hx] at h
      exact h
    clear hx hp h1
    generalize fns.length = NP at *
    go_enter Tryz.func21, Tryz.ntmps21
    go_wp2_with (go_at_call 39; refine Calls.mono (unhide HPt _) ?_; rintro e w1 ⟨rfl, hw⟩; obtain rfl := hw.symm)
    go_ret
    exact ⟨rfl, Ext.alloc _ _⟩

end Go.Proofs.YtlgdjeiendmniaaGreatDoor.V
