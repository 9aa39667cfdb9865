/- The walk goes on from a place. -/
import Derived.Test.YtggpehmljpanjaaStkCm
set_option linter.unusedSimpArgs false
set_option linter.unusedVariables false
set_option maxRecDepth 10000
namespace Go.Proofs.Ytggpehmljpanjaa
open Go.RowKit

theorem enterPops (v : Value) (W : World) : (callFunc 10 #[v]).run Try.prog W = .ok (.enter 10 #[v]) W := by kernel_rfl

theorem kPops_ge (i : KI) : 0 ≤ kPops i := by unfold kPops; repeat' split
                                              all_goals omega
theorem kPops_le (i : KI) (h1 : i.a ≤ 9223372036854775807) (h2 : i.b ≤ 9223372036854775807) : kPops i ≤ 9223372036854775807 := by
  unfold kPops; repeat' split
  all_goals omega
theorem kPush_ge (i : KI) : 0 ≤ kPush i ∧ kPush i ≤ 1 := by
  unfold kPush; split
  all_goals omega

/-- What holds while one goes through the places that an instruction leads to. -/
structure LvI (w0 w wr : World) (B H : Nat) (a : Option Addr) (cap n : Nat) (st0 st : KW) (oa0 oa : Option Addr) (oc X : Nat) (i : KI) (nb : Option Addr) (nx : List Int) (h : Int) (k : Nat) : Prop where
  S : WkS w0 wr B H a cap n st oa oc
  box : wr.heap[X]? = some (.cells #[.int .i64 i.op, .int .i64 i.a, .int .i64 i.b] 23 (0, 0))
  bX : w.heap.size ≤ X ∧ obk oa ≠ some X
  nr : RepZ wr (fun b => w.heap.size ≤ b ∧ b < wr.heap.size ∧ obk oa ≠ some b) nb nx
  fr : WkF B H oa0 oa w wr
  eq : kComes n h (nx.drop k) st = kComes n h nx st0
  len : st.op.length ≤ st0.op.length + k

theorem LvI.on {w0 w wr w1 : World} {B H : Nat} {a : Option Addr} {cap n : Nat} {st0 st : KW} {oa0 oa : Option Addr} {oc X : Nat} {i : KI} {nb : Option Addr} {nx : List Int} {h : Int} {k : Nat} (I : LvI w0 w wr B H a cap n st0 st oa0 oa oc X i nb nx h k) (x : Ext wr w1) : LvI w0 w w1 B H a cap n st0 st oa0 oa oc X i nb nx h k :=
  ⟨I.S.on x, (x.block X (k_lt I.box)).trans I.box, I.bX, I.nr.to (fun b hb => ⟨⟨hb.1, Nat.lt_of_lt_of_le hb.2.1 x.size, hb.2.2⟩, x.block b hb.2.1⟩), I.fr.trans (WkF.of x), I.eq, I.len⟩

theorem LvI.step {w0 w wr w1 : World} {B H : Nat} {a : Option Addr} {cap n : Nat} {st0 st : KW} {oa0 oa oa1 : Option Addr} {oc oc1 X : Nat} {i : KI} {nb : Option Addr} {nx : List Int} {h : Int} {k : Nat} {to : Int} (I : LvI w0 w wr B H a cap n st0 st oa0 oa oc X i nb nx h k) (hB : B < w.heap.size) (hH : H < w.heap.size) (ht : nx[k]? = some to)
    (s : WkS w0 w1 B H a cap n (kCome n st to h) oa1 oc1) (f : WkF B H oa oa1 wr w1) : LvI w0 w w1 B H a cap n st0 (kCome n st to h) oa0 oa1 oc1 X i nb nx h (k + 1) := by
  have hX := k_lt I.box
  have hs := f.size
  have hb := I.bX
  have no : ∀ b, b < wr.heap.size → obk oa ≠ some b → obk oa1 ≠ some b := fun b h1 h2 e => by
    rcases f.own b e with e | e
    · exact h2 e
    · omega
  refine ⟨s, (f.keep X hX (by omega) (by omega) hb.2).trans I.box, ⟨hb.1, no X hX hb.2⟩, I.nr.to (fun b hb => ⟨⟨hb.1, by omega, no b hb.2.1 hb.2.2⟩, f.keep b hb.2.1 (by omega) (by omega) hb.2.2⟩), I.fr.trans f, ?_, ?_⟩
  · obtain ⟨hk, rfl⟩ := List.getElem?_eq_some_iff.1 ht
    rw [← I.eq, List.drop_eq_getElem_cons hk, kComes]
  · have := (kCome_len n st to h).2
    have := I.len
    omega

theorem kLeave_at {code : List KI} {st : KW} {j : Nat} {i : KI} {x : Int} (hi : code[j]? = some i) (hx : st.hs[j]? = some x) : kLeave code st j = if x - kPops i < 0 then ⟨st.hs, st.op, true⟩ else kComes code.length (x - kPops i + kPush i) (kNext code j) st := by
  unfold kLeave
  rw [hi, hx]

set_option maxHeartbeats 1000000 in
theorem leave_w (w0 w : World) (B H : Nat) (a : Option Addr) (cap : Nat) (code : List KI) (st : KW) (oa : Option Addr) (oc : Nat) (j : Nat) (S : WkS w0 w B H a cap code.length st oa oc) (hc : RepC w0 (In w0) a code) (hb : KBd code) (hnb : KNb code) (hj : j < code.length) (hop : st.op.length ≤ 9000000) (hn : code.length ≤ 1000000) :
    Calls Try.prog 30 #[.pointer (some ⟨B, 0, none⟩), .int .i64 (j : Int)] w (WkE w0 w B H a cap code.length oa (kLeave code st j)) := by
  obtain ⟨i, hi⟩ : ∃ i, code[j]? = some i := ⟨_, List.getElem?_eq_getElem hj⟩
  obtain ⟨x, hx⟩ : ∃ x, st.hs[j]? = some x := ⟨_, List.getElem?_eq_getElem (by rw [S.ok.1]; exact hj)⟩
  have hxb := S.ok.2.2 x (List.mem_of_getElem? hx)
  have hib := hb i (List.mem_of_getElem? hi)
  have hp1 := kPops_ge i
  have hp2 := kPops_le i hib.2.1 hib.2.2.2
  have hp3 := kPush_ge i
  rw [kLeave_at hi hx]
  have HP := hide (fun W => pops_any i W)
  have HU := hide (fun W => pushes_any i W)
  have HN := hide (fun (W : World) (e : Ext w0 W) => next_any code j a cap W (hc.ext e) hn)
  have HC := hide (fun (W : World) (st' : KW) (oa' : Option Addr) (oc' k : Nat) (h : Int) (S' : WkS w0 W B H a cap code.length st' oa' oc') => come_w w0 W B H a cap code.length st' oa' oc' k h S')
  have HNB := hide hnb
  obtain ⟨b, o, rfl, hf, d0, d1, d2⟩ := (hc.ext S.ext).at hi
  have c0 := k_rowC S.rB 0 rfl
  have c1 := k_rowC S.rB 1 rfl
  have zf := k_rowF S.rB
  have cx : w.cell? ⟨H, j, none⟩ = some (.int .i64 x) := k_rowC S.rH j (rH_at hx)
  have HS := hide S
  have lB := k_lt S.rB
  have lH := k_lt S.rH
  have HE := hide (kNext_len code (j : Int))
  clear S hi hx hc hb hnb hib hf
  have hpv : ∃ P, P = kPops i := ⟨_, rfl⟩
  obtain ⟨P, hP⟩ := hpv
  have huv : ∃ U, U = kPush i := ⟨_, rfl⟩
  obtain ⟨U, hU⟩ := huv
  rw [← hP] at hp1 hp2 HP ⊢
  rw [← hU] at hp3 HU ⊢
  clear hP hU
  obtain ⟨p, y, z⟩ := i
  simp only at d0 d1 d2
  have c0 : w.cell? ⟨B, 0, none⟩ = some (.slice (some ⟨b, o, none⟩) code.length cap) := c0
  have c1 : w.cell? ⟨B, 1, none⟩ = some (.slice (some ⟨H, 0, none⟩) code.length code.length) := c1
  have c3 : w.cell? ⟨B, 3, none⟩ = some (.bool st.f) := k_rowC (unhide HS).rB 3 rfl
  by_cases hlt : x - P < 0
  · rw [if_pos hlt]
    go_enter Try.func30, Try.ntmps30
    go_wp2_with fail
    refine k_nrm ?_
    first | skip; go_region_law (refine k_step_call rfl 10 (.tmp 22) 23 rfl _ (by simp [Act.eval, Act.put]) (enterPops _ _) (Calls.mono (unhide HP _) ?_); rintro e w2 ⟨rfl, hw⟩; have hE := (Ext.drew (Ext.alloc w _)).trans hw; have HE2 := hide hE; have q1 := hE.cell c1; have q0 := hE.cell c0; have q3 := hE.cell c3; have qx := hE.cell cx; have qz := k_rowF ((unhide HS).on hE).rB; have HB := hide (hw.block w.heap.size (by simp)); have HL2 : Hd (w.heap.size < w2.heap.size) := Nat.lt_of_lt_of_le (by simp) hw.size; clear hw hE; refine ⟨_, rfl, ?_⟩) | fail
    all_goals
      simp only [KNrm]
      go_wp2_with fail
      go_end0
      exact ⟨rfl, _, _, ((unhide HS).on (unhide HE2)).fault, (WkF.of (unhide HE2)).trans (WkF.fault _ _ _ _)⟩
  · rw [if_neg hlt]
    go_enter Try.func30, Try.ntmps30
    go_wp2_with fail
    refine k_nrm ?_
    first | skip; go_region_law (refine k_step_call rfl 10 (.tmp 22) 23 rfl _ (by simp [Act.eval, Act.put]) (enterPops _ _) (Calls.mono (unhide HP _) ?_); rintro e w2 ⟨rfl, hw⟩; have hE := (Ext.drew (Ext.alloc w _)).trans hw; have HE2 := hide hE; have q1 := hE.cell c1; have q0 := hE.cell c0; have q3 := hE.cell c3; have qx := hE.cell cx; have qz := k_rowF ((unhide HS).on hE).rB; have HB := hide (hw.block w.heap.size (by simp)); have HL2 : Hd (w.heap.size < w2.heap.size) := Nat.lt_of_lt_of_le (by simp) hw.size; clear hw hE; refine ⟨_, rfl, ?_⟩) | fail
    all_goals
      simp only [KNrm]
      go_wp2_with (go_at_call 15; refine Calls.mono (unhide HN w2 ((unhide HS).ext.trans (unhide HE2))) ?_; rintro e w3 ⟨nb, nc, rfl, r1, r2, r3⟩; have R1 := hide r1; have R2 := hide r2; have R3 := hide r3; clear r1 r2 r3)
      have I0 : Hd (LvI w0 w w3 B H (some ⟨b, o, none⟩) cap code.length st st oa oa oc w.heap.size ⟨p, y, z⟩ nb (kNext code (j : Int)) (x - P + U) 0) := by
        have hE3 := (unhide HE2).trans (unhide R3)
        have hno : ∀ k, w.heap.size ≤ k → obk oa ≠ some k := fun k hk e => by
          have := ((unhide HS).own.lt k (by rw [obk_eq]; exact e)).2
          omega
        have hl2 : w.heap.size < w2.heap.size := unhide HL2
        refine ⟨(unhide HS).on hE3, ?_, ⟨Nat.le_refl _, hno _ (Nat.le_refl _)⟩, (unhide R2).to (fun b hb => ⟨⟨by have := hb.1; omega, hb.2, hno b (by have := hb.1; omega)⟩, rfl⟩), WkF.of hE3, rfl, by omega⟩
        exact ((unhide R3).block w.heap.size hl2).trans ((unhide HB).trans (Go.heap_alloc_new w _))
      clear R2 R3 HB HE2 q0 q1 q3 qx qz
      generalize hNX : kNext code (j : Int) = NX at *
      have hNL := unhide HE
      go_wp2_with fail
      go_loopw [37] (fun t wr => ∃ (k : Nat) (st' : KW) (oa' : Option Addr) (oc' : Nat), t = .int .i64 k ∧ k ≤ NX.length ∧ Hd (LvI w0 w wr B H (some ⟨b, o, none⟩) cap code.length st st' oa oa' oc' w.heap.size ⟨p, y, z⟩ nb NX (x - P + U) k)) (fun t _ => NX.length - (intOf t).toNat)
      case atStart => exact ⟨0, st, oa, oc, rfl, by omega, I0⟩
      case round =>
        clear I0
        obtain ⟨k, st', oa', oc', rfl, hk, hI⟩ := hrel
        by_cases hlk : k < NX.length
        · obtain ⟨to, hto⟩ : ∃ to, NX[k]? = some to := ⟨_, List.getElem?_eq_getElem hlk⟩
          have hto0 : 0 ≤ to := unhide HNB j to (by rw [hNX]; exact List.mem_of_getElem? hto)
          obtain ⟨t, rfl⟩ : ∃ t : Nat, to = t := ⟨to.toNat, by omega⟩
          obtain ⟨nbb, rfl, _, hcell⟩ : ∃ b', nb = some ⟨b', 0, none⟩ ∧ True ∧ wr.cell? ⟨b', k, none⟩ = some (.int .i64 (t : Int)) := by
            rcases (unhide hI).nr with h | ⟨b', e, _, hc⟩
            · rw [h] at hlk; simp at hlk
            · exact ⟨b', e, trivial, hc k _ hto⟩
          have x0 := k_rowC (unhide hI).box 0 rfl
          have x1 := k_rowC (unhide hI).box 1 rfl
          have x2 := k_rowC (unhide hI).box 2 rfl
          have HT := hide hto
          have hlen := (unhide hI).len
          have HTO := hide hto0
          clear hto hto0
          go_wp2_with (first | (go_at_call 12; refine Calls.mono (unhide HU _) ?_; rintro e w4 ⟨rfl, hw⟩; have I4 := hide ((unhide hI).on hw); clear hw) | (go_at_call 29; refine Calls.mono (unhide HC w4 st' oa' oc' t (x - P + U) (unhide I4).S ?h1 ?h2 ?h3) ?_; rotate_left 3; rintro e w5 ⟨rfl, oa5, oc5, hs5, hf5⟩; have I5 := hide ((unhide I4).step lB lH (unhide HT) hs5 hf5); clear hs5 hf5))
          case h1 => omega
          case h2 => exact hn
          case h3 => omega
          go_roundw
          case rel => exact ⟨k + 1, _, _, _, by go_num, by omega, I5⟩
          case measure => simp [intOf]; omega
        · obtain rfl : k = NX.length := by omega
          go_wp2_with fail
          go_end0
          refine ⟨rfl, oa', oc', ?_, (unhide hI).fr⟩
          have he := (unhide hI).eq
          rw [List.drop_length, kComes] at he
          rw [← he]
          exact (unhide hI).S

end Go.Proofs.Ytggpehmljpanjaa
