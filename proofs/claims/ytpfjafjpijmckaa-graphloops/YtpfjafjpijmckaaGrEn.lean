/- The entry of a number. -/
import Derived.Test.YtpfjafjpijmckaaGrLo
set_option linter.unusedSimpArgs false
set_option linter.unusedVariables false
set_option maxRecDepth 10000
namespace Go.Proofs.Ytpfjafjpijmckaa
open Go.RowKit

/-- So far. -/
structure EnI (w0 wr : World) (C Nb U L E np m : Nat) (K n : Nat) (l : List Nat) (j least : Nat) (c : GC) (x : Nat) (c' : GC) (wa : Option Addr) (wc : Nat) : Prop where
  S : ClS w0 wr C Nb U L E np m c wa wc
  eq : gEnt K n (l.drop j) least c = some (x, c')

set_option maxHeartbeats 4000000 in
theorem entry_w (w0 w : World) (C Nb U L E np m : Nat) (c : GC) (wa : Option Addr) (wc : Nat) (n K x : Nat) (l : List Nat) (la : Option Addr) (lc : Nat) (c' : GC) (hS : ClS w0 w C Nb U L E np m c wa wc) (hm : m ≤ 1000000) (hnp : np ≤ 1000000) (hK : K ≤ 8000000) (hll : l.length ≤ 10000000000000) (hl : RepI w0 (In w0) la (l.map (fun (x : Nat) => (x : Int)))) (hF : gEnt K n l n c = some (x, c')) :
    Calls Try.prog 44 #[.pointer (some ⟨C, 0, none⟩), .int .i64 (n : Int), .slice la l.length lc] w (ClE w0 C Nb U L E np m x c') := by
  have HLo := hide (fun (W : World) (c : GC) (wa : Option Addr) (wc : Nat) (a x : Nat) (c' : GC) (hS : ClS w0 W C Nb U L E np m c wa wc) (hF : gLow K c a n = some (x, c')) => lowest_w w0 W C Nb U L E np m c wa wc a n K x c' hS hm hK hF)
  have HI0 : Hd (EnI w0 w C Nb U L E np m K n l 0 n c x c' wa wc) := ⟨hS, by rw [List.drop_zero]; exact hF⟩
  have HL := hide hl
  clear hS hF hl
  go_enter Try.func44, Try.ntmps44
  go_wp2_with fail
  go_loopw [7, 14] (fun t7 t14 wr => ∃ (j least : Nat) (c : GC) (wa : Option Addr) (wc : Nat), t7 = .int .i64 (least : Int) ∧ t14 = .int .i64 (j : Int) ∧ j ≤ l.length ∧ Hd (EnI w0 wr C Nb U L E np m K n l j least c x c' wa wc)) (fun _ t _ => l.length - (intOf t).toNat)
  case atStart => exact ⟨0, n, c, wa, wc, rfl, rfl, by omega, HI0⟩
  case round =>
    clear HI0
    obtain ⟨j, least, c, wa, wc, rfl, rfl, hj, hI⟩ := hrel
    by_cases hlt : j < l.length
    · obtain ⟨p, hp⟩ : ∃ p, l[j]? = some p := ⟨_, List.getElem?_eq_getElem hlt⟩
      obtain ⟨lb, lo, rfl, _, hcp⟩ := (unhide HL).at (j := j) (x := (p : Int)) (by rw [List.getElem?_map, hp]; rfl)
      have hcp := (unhide hI).S.ext.cell hcp
      have heq := (unhide hI).eq
      have hdr : l.drop j = p :: l.drop (j + 1) := by
        rw [List.getElem?_eq_getElem hlt] at hp
        injection hp with hp
        rw [List.drop_eq_getElem_cons hlt, hp]
      rw [hdr, gEnt] at heq
      clear hdr hp
      have c0 : wr.cell? ⟨C, 0, none⟩ = some (slV Nb np) := (unhide hI).S.rC.cell 0 rfl
      cases hnum : c.num[p]? with
      | none => rw [hnum] at heq; cases heq
      | some y =>
      rw [hnum] at heq
      have hpn : p < np := by rw [← (unhide hI).S.len.1]; exact (List.getElem?_eq_some_iff.1 hnum).1
      have cy := (unhide hI).S.rNb.cell p (os_at hnum)
      clear hnum
      cases y with
      | none =>
        simp only at heq
        have HI' : Hd (EnI w0 wr C Nb U L E np m K n l (j + 1) least c x c' wa wc) := ⟨(unhide hI).S, heq⟩
        rw [show oI none = -1 from rfl] at cy
        clear heq
        go_wp2_with fail
        go_roundw
        case rel => exact ⟨j + 1, least, c, wa, wc, rfl, by go_num, by omega, HI'⟩
        case measure => simp [intOf]; omega
      | some a =>
        simp only at heq
        rw [show oI (some a) = (a : Int) from rfl] at cy
        have hne : ((a : Int) == -1) = false := by rw [beq_eq_false_iff_ne]; omega
        cases hlo : gLow K c a n with
        | none => rw [hlo] at heq; cases heq
        | some r =>
        obtain ⟨y, c2⟩ := r
        rw [hlo] at heq
        simp only at heq
        have HCall := hide (unhide HLo wr c wa wc a y c2 (unhide hI).S hlo)
        have HEq := hide heq
        clear heq hlo
        by_cases hle : least ≤ y
        · have HM : Hd (min least y = least) := Nat.min_eq_left hle
          have hle' : (least : Int) ≤ (y : Int) := by omega
          go_wp2_with (go_at_call 49; refine Calls.mono (unhide HCall) ?_; rintro e w1 ⟨rfl, wa1, wc1, s1⟩; have S1 := hide s1; clear s1)
          go_roundw
          case rel => exact ⟨j + 1, least, c2, wa1, wc1, rfl, by go_num, by omega, ⟨unhide S1, by rw [unhide HM] at HEq; exact unhide HEq⟩⟩
          case measure => simp [intOf]; omega
        · have HM : Hd (min least y = y) := Nat.min_eq_right (by omega)
          have hle' : ¬ (least : Int) ≤ (y : Int) := by omega
          go_wp2_with (go_at_call 49; refine Calls.mono (unhide HCall) ?_; rintro e w1 ⟨rfl, wa1, wc1, s1⟩; have S1 := hide s1; clear s1)
          go_roundw
          case rel => exact ⟨j + 1, y, c2, wa1, wc1, rfl, by go_num, by omega, ⟨unhide S1, by rw [unhide HM] at HEq; exact unhide HEq⟩⟩
          case measure => simp [intOf]; omega
    · obtain rfl : j = l.length := by omega
      have HQ : Hd (least = x ∧ c = c') := by
        have := (unhide hI).eq
        rw [List.drop_length, gEnt] at this
        simpa [Hd] using this
      go_wp2_with fail
      go_ret
      have hS := (unhide hI).S
      rw [(unhide HQ).2] at hS
      refine ⟨?_, _, _, hS⟩
      rw [← (unhide HQ).1]
      rfl

end Go.Proofs.Ytpfjafjpijmckaa
