/- The document's order of leaving: leave, Order. -/
import Derived.Test.YtmhcecofknemkaaGrRn
import Derived.Deep.Upon
import Derived.Lib.AppendZeros
set_option linter.unusedSimpArgs false
set_option linter.unusedVariables false
set_option maxRecDepth 10000
namespace Go.Proofs.Ytmhcecofknemkaa
open Go.RowKit

theorem eScan_len (ls : List (List Nat)) : ∀ (k : Nat) (on' : List Bool) (out l : List Nat) (R : List Bool × List Nat), eScan ls k on' out l = some R → R.1.length = on'.length ∧ R.2.length + unsh R.1 = out.length + unsh on'
  | 0, on', out, l, R, h => by rw [eScan] at h; cases h
  | k + 1, on', out, [], R, h => by
    rw [eScan] at h
    injection h with h
    subst h
    exact ⟨rfl, rfl⟩
  | k + 1, on', out, q :: r, R, h => by
    rw [eScan] at h
    cases h1 : on'[q]? with
    | none => rw [h1] at h; cases h
    | some b =>
      rw [h1] at h
      cases b with
      | true => exact eScan_len ls k _ _ _ R h
      | false =>
        simp only at h
        cases h2 : ls[q]? with
        | none => rw [h2] at h; cases h
        | some l =>
          rw [h2] at h
          simp only at h
          cases h3 : eScan ls k (on'.set q true) out l with
          | none => rw [h3] at h; cases h
          | some S =>
            obtain ⟨on1, out1⟩ := S
            rw [h3] at h
            simp only at h
            obtain ⟨a1, a2⟩ := eScan_len ls k _ _ _ _ h3
            obtain ⟨b1, b2⟩ := eScan_len ls k _ _ _ R h
            have hu := unsh_set on' q h1
            simp only [List.length_set, List.length_cons] at a1 a2 b1 b2
            exact ⟨by omega, by omega⟩

/-- A list put behind one that was just made. -/
theorem app_lit (w : World) (F : Nat → Prop) (x : Nat) (l : List Nat) (oa : Option Addr) (oc : Nat) (ty : TypeId) (rep : RepI w F oa (l.map (fun (x : Nat) => (x : Int)))) (hl : l.length ≤ 1000000) :
    ∃ g' cap' w', (Builtin.append_ #[22, 22] ty #[.slice (some ⟨w.heap.size, 0, none⟩) 1 1, .slice oa l.length oc]).run Try.prog (w.alloc (.cells #[.int .i64 (x : Int)] 3)) = .ok (.slice (some ⟨g', 0, none⟩) (1 + l.length) cap') w' ∧ Ext w w' ∧ w.heap.size ≤ g' ∧ RepI w' (In w') (some ⟨g', 0, none⟩) ((x :: l).map (fun (x : Nat) => (x : Int))) := by
  obtain ⟨i0, hi, hz0, hz1, hz2⟩ := k_info
  have hX := Ext.alloc w (.cells #[.int .i64 (x : Int)] 3)
  have hO := own_lit w w (x : Int) (Nat.le_refl _)
  by_cases h0 : l = []
  · subst h0
    have hs : Src Try.prog i0.size 22 (.slice oa 0 oc) 0 [] (w.alloc (.cells #[.int .i64 (x : Int)] 3)) := by
      cases oa with
      | none => exact Src.ofNil _ Try.underlying22 oc
      | some a => exact Src.ofSlice _ Try.underlying22 a 0 oc [] (by simp) (fun j u h => by simp at h) (fun u h => by cases h)
    exact ⟨w.heap.size, 1, _, run_append_nothing _ 22 22 ty 3 i0 Try.underlying22 hi _ 1 1 (Nat.le_refl _) _ hs, hX, Nat.le_refl _, own_repI (l := [x]) hO⟩
  · rcases rep with e | ⟨b, o, rfl, hf, hc⟩
    · simp at e; exact absurd e h0
    · have hlp : 0 < l.length := by rcases l with _ | _; exact absurd rfl h0; simp
      obtain ⟨g', cap', w', r1, r2, r3, r4⟩ := kapp_run (P := Try.prog) (w := w.alloc (.cells #[.int .i64 (x : Int)] 3)) w.heap.size 22 ty 3 i0 (.int .i64 0) 1 8 Try.underlying22 hi hz0 hz1 hz2 rfl (by decide) (some ⟨w.heap.size, 0, none⟩) 1 1 [.int .i64 (x : Int)] hO ⟨b, o, none⟩ l.length oc (ns l) hlp (by simp [ns]) (fun j u hu => by
        rw [show (⟨b, o, none⟩ : Addr).add j = ⟨b, o + j, none⟩ by simp [Addr.add]]
        rw [show (ns l)[j]? = (l[j]?).map (fun (x : Nat) => Value.int .i64 (x : Int)) by simp [ns]] at hu
        cases hj : l[j]? with
        | none => rw [hj] at hu; cases hu
        | some y =>
          rw [hj] at hu
          injection hu with hu
          subst hu
          exact hX.cell (hc j (y : Int) (by rw [List.getElem?_map, hj]; rfl))) (fun u hu => by
          obtain ⟨y, _, rfl⟩ := List.mem_map.1 hu
          rfl) (by unfold maxLen; omega) (by omega) hX.size
      have hlt := r2.lt g' rfl
      refine ⟨g', cap', w', r1, Below.grown hX r3 hX.size (fun t ht => (hO.lt t ht).1), hlt.1, ?_⟩
      exact own_repI (l := x :: l) (by simpa [ns] using r2)

def NotB (On : Nat) (w : World) (b : Nat) : Prop := b < w.heap.size ∧ b ≠ On
/-- Of what stood only the block On has turned. -/
def KeepO (On : Nat) (w w' : World) : Prop := w.heap.size ≤ w'.heap.size ∧ ∀ b, b < w.heap.size → b ≠ On → w'.heap[b]? = w.heap[b]?
theorem KeepO.trans {On : Nat} {a b c : World} (h : KeepO On a b) (k : KeepO On b c) : KeepO On a c := ⟨Nat.le_trans h.1 k.1, fun t ht hn => (k.2 t (Nat.lt_of_lt_of_le ht h.1) hn).trans (h.2 t ht hn)⟩
theorem KeepO.ext {On : Nat} {a b : World} (h : Ext a b) : KeepO On a b := ⟨h.size, fun t ht _ => h.block t ht⟩
theorem KeepO.set {On : Nat} (w : World) (i : Nat) (v : Value) : KeepO On w (w.setCell ⟨On, i, none⟩ v) := ⟨by simp [World.setCell], fun t _ hn => Below.heap_setCell _ _ _ _ hn⟩
theorem KeepO.not {On : Nat} {w w' : World} (h : KeepO On w w') (b : Nat) (hb : NotB On w b) : NotB On w' b ∧ w'.heap[b]? = w.heap[b]? := ⟨⟨Nat.lt_of_lt_of_le hb.1 h.1, hb.2⟩, h.2 b hb.1 hb.2⟩
abbrev zN (l : List Nat) : List Int := l.map (fun (x : Nat) => (x : Int))
/-- Under way. -/
structure LvS (w0 w wr : World) (ga : Option Addr) (On : Nat) (ls : List (List Nat)) (l : List Nat) (j gk : Nat) (on' : List Bool) (out : List Nat) (R : List Bool × List Nat) (oa : Option Addr) : Prop where
  ext : Ext w0 wr
  rO : Row wr On 4 (bsV on')
  len : on'.length = ls.length
  rep : RepI wr (NotB On wr) oa (zN out)
  eq : eScan ls gk on' out (l.drop j) = some R
  bd : out.length + unsh on' ≤ 1000000
  g : RepG wr (NotB On wr) ga (gUpG ls)
  kp : KeepO On w wr
def LeaveE (w0 w : World) (On : Nat) (R : List Bool × List Nat) (e : Ending) (w' : World) : Prop := ∃ ra rc, e = .returned (.slice ra R.2.length rc) ∧ Ext w0 w' ∧ KeepO On w w' ∧ Row w' On 4 (bsV R.1) ∧ RepI w' (NotB On w') ra (zN R.2)

set_option maxHeartbeats 2000000 in
theorem leave_w (ls : List (List Nat)) (hn : ls.length ≤ 1000000) (hD : ∀ l ∈ ls, l.length ≤ 1000000) (hp : Pts ls) (w0 : World) (ga : Option Addr) (gc : Nat) (On : Nat) (hOn : w0.heap.size ≤ On) :
    ∀ (k at' : Nat) (on' : List Bool) (out : List Nat) (R : List Bool × List Nat) (oa : Option Addr) (oc : Nat) (w : World), rLeave ls k at' on' out = some R → RepG w (NotB On w) ga (gUpG ls) → Ext w0 w → Row w On 4 (bsV on') → on'.length = ls.length → RepI w (NotB On w) oa (zN out) → out.length + unsh on' ≤ 1000000 → on'[at']? = some false →
    Calls Try.prog 40 #[.slice ga ls.length gc, .int .i64 (at' : Int), .slice (some ⟨On, 0, none⟩) ls.length ls.length, .slice oa out.length oc] w (LeaveE w0 w On R) := by
  have HOn := hide hOn
  have HPt := hide hp
  have HD := hide hD
  clear hOn hp hD
  intro k
  induction k using Nat.strongRecOn with
  | _ k ih =>
  intro at' on' out R oa oc w hR hg hE hrO hlen hrep hbd hat
  have IH := hide ih
  clear ih
  unfold rLeave at hR
  cases hl : ls[at']? with
  | none => rw [hl] at hR; cases hR
  | some l =>
  rw [hl] at hR
  simp only at hR
  cases hs : eScan ls k (on'.set at' true) out l with
  | none => rw [hs] at hR; cases hR
  | some S =>
  obtain ⟨on1, out1⟩ := S
  rw [hs] at hR
  simp only at hR
  injection hR with hR
  subst hR
  have hu := unsh_set on' at' hat
  have hsl := eScan_len ls k _ _ _ _ hs
  have han : at' < ls.length := (List.getElem?_eq_some_iff.1 hl).1
  have hai : (at' : Int) < (ls.length : Int) := by omega
  have hll : l.length ≤ 1000000 := unhide HD l (List.mem_of_getElem? hl)
  have hlp : Hd (∀ q ∈ l, q < ls.length) := unhide HPt l (List.mem_of_getElem? hl)
  have HL : Hd ((gUpG ls)[at']? = some (zN l)) := by unfold gUpG; show _ = _; rw [List.getElem?_map, hl]; rfl
  obtain ⟨gb, go, _, _, rfl, _, _, _⟩ := hg.at (unhide HL)
  have co := hrO.cell at' (bs_at hat)
  have fo := k_rowF hrO at'
  have hb1 : Hd (out1.length ≤ 1000000) := by have := hsl.2; simp only at this; show out1.length ≤ 1000000; omega
  have HS0 : Hd (LvS w0 w (w.setCell ⟨On, at', none⟩ (.bool true)) (some ⟨gb, go, none⟩) On ls l 0 k (on'.set at' true) out (on1, out1) oa) := by
    refine ⟨hE.set (p := ⟨On, at', none⟩) (unhide HOn) _, by rw [← bs_set]; exact hrO.set at' _, by rw [List.length_set]; exact hlen, ?_, by rw [List.drop_zero]; exact hs, by omega, hg.to (KeepO.set w at' _).not, KeepO.set w at' _⟩
    exact hrep.to (KeepO.set w at' _).not
  obtain ⟨i0, hi, hz0, hz1, hz2⟩ := k_info
  have HI := hide hi
  have Z0 := hide hz0
  have Z1 := hide hz1
  have Z2 := hide hz2
  clear hi hz0 hz1 hz2 hs hsl hu hrep hrO hl hbd hlen hat hg
  have hln0 : out.length ≤ 1000000 := by have := (unhide HS0).bd; omega
  go_enter Try.func40, Try.ntmps40
  go_wp2_with fail
  go_loopg [3, 9] k (fun gk t3 t9 wr => ∃ (j : Nat) (on' : List Bool) (out : List Nat) (oa : Option Addr) (oc : Nat), t3 = .slice oa out.length oc ∧ t9 = .int .i64 (j : Int) ∧ j ≤ l.length ∧ Hd (gk ≤ k) ∧ Hd (LvS w0 w wr (some ⟨gb, go, none⟩) On ls l j gk on' out (on1, out1) oa))
  case atStart => exact ⟨0, _, out, oa, oc, rfl, rfl, by omega, Nat.le_refl _, HS0⟩
  case round =>
    clear HS0 hln0 co fo
    obtain ⟨j, on', out, oa, oc, rfl, rfl, hj, hgk, hI⟩ := hrel
    have hX := (unhide hI).ext
    obtain ⟨gb2, go2, ia, ic, e2, _, cl, rl⟩ := (unhide hI).g.at (unhide HL)
    injection e2 with e2
    injection e2 with e2 e3
    subst e2 e3
    rw [List.length_map] at cl
    have HRl := hide rl
    clear rl
    have hE := (unhide hI).eq
    have hln : out.length ≤ 1000000 := by have := (unhide hI).bd; omega
    cases gk with
    | zero => rw [eScan] at hE; cases hE
    | succ gk =>
    by_cases hlj : j < l.length
    · obtain ⟨q, hq⟩ : ∃ q, l[j]? = some q := ⟨_, List.getElem?_eq_getElem hlj⟩
      obtain ⟨qb, qo, rfl, _, cq⟩ := (unhide HRl).at (j := j) (x := (q : Int)) (by rw [List.getElem?_map, hq]; rfl)
      have hqn : q < ls.length := unhide hlp q (List.mem_of_getElem? hq)
      have hqi : (q : Int) < (ls.length : Int) := by omega
      have hdr : l.drop j = q :: l.drop (j + 1) := by
        rw [List.getElem?_eq_getElem hlj] at hq
        injection hq with hq
        rw [List.drop_eq_getElem_cons hlj, hq]
      rw [hdr, eScan] at hE
      clear hdr hq
      cases hon : on'[q]? with
      | none => rw [hon] at hE; cases hE
      | some b =>
      rw [hon] at hE
      have cb := (unhide hI).rO.cell q (bs_at hon)
      have hlj' : (j : Int) < (l.length : Int) := by omega
      cases b with
      | true =>
        simp only at hE
        have HI' : Hd (LvS w0 w wr (some ⟨gb, go, none⟩) On ls l (j + 1) gk on' out (on1, out1) oa) := ⟨hX, (unhide hI).rO, (unhide hI).len, (unhide hI).rep, hE, (unhide hI).bd, (unhide hI).g, (unhide hI).kp⟩
        clear hE hX hon hI
        go_wp2_with fail
        go_roundg gk
        case rel => exact ⟨j + 1, on', out, oa, oc, rfl, by go_num, by omega, Nat.le_trans (Nat.le_succ gk) (unhide hgk), HI'⟩
        case measure => omega
      | false =>
        simp only at hE
        cases hl2 : ls[q]? with
        | none => rw [hl2] at hE; cases hE
        | some l2 =>
        rw [hl2] at hE
        simp only at hE
        cases hs2 : eScan ls gk (on'.set q true) out l2 with
        | none => rw [hs2] at hE; cases hE
        | some S2 =>
        obtain ⟨on2, out2⟩ := S2
        rw [hs2] at hE
        simp only at hE
        have hrl : rLeave ls gk q on' out = some (on2, q :: out2) := by
          unfold rLeave
          rw [hl2]
          simp only
          rw [hs2]
        have hle2 := eScan_len ls gk _ _ _ _ hs2
        have hu2 := unsh_set on' q hon
        have HC := hide (unhide IH gk (by have := unhide hgk; omega) q on' out (on2, q :: out2) oa oc wr hrl (unhide hI).g hX (unhide hI).rO (unhide hI).len (unhide hI).rep (unhide hI).bd hon)
        have HNx : Hd (∀ (w2 : World) (ra : Option Addr), Ext w0 w2 → KeepO On wr w2 → Row w2 On 4 (bsV on2) → RepI w2 (NotB On w2) ra (zN (q :: out2)) → LvS w0 w w2 (some ⟨gb, go, none⟩) On ls l (j + 1) gk on2 (q :: out2) (on1, out1) ra) := fun w2 ra x kq r p => ⟨x, r, by have := hle2.1; simp only [List.length_set] at this; rw [this]; exact (unhide hI).len, p, hE, by have := (unhide hI).bd; have := hle2.2; simp only [List.length_cons] at *; omega, (unhide hI).g.to kq.not, (unhide hI).kp.trans kq⟩
        have hl4 : (q :: out2).length ≤ 1000000 := by have := (unhide hI).bd; have := hle2.2; simp only [List.length_cons] at *; omega
        clear hE hX hon hI hs2 hl2 hrl hle2 hu2
        go_wp2_with (go_at_call 40; refine Calls.mono (unhide HC) ?_; rintro e w2 ⟨ra, rc, rfl, x2, k2, r2, p2⟩; have X2 := hide x2; have K2 := hide k2; have R2 := hide r2; have P2 := hide p2; clear x2 k2 r2 p2)
        go_roundg gk
        case rel => exact ⟨j + 1, on2, q :: out2, ra, rc, rfl, by go_num, by omega, Nat.le_trans (Nat.le_succ gk) (unhide hgk), unhide HNx w2 ra (unhide X2) (unhide K2) (unhide R2) (unhide P2)⟩
        case measure => omega
    · obtain rfl : j = l.length := by omega
      rw [List.drop_length, eScan] at hE
      injection hE with hE
      injection hE with e1 e2
      subst e1 e2
      obtain ⟨g', cap', w', r1, r2, r3, r4⟩ := app_lit wr _ at' out oa oc 22 (unhide hI).rep hln
      have hbO : On < wr.heap.size := k_lt (unhide hI).rO
      have R2 := hide r2
      have R3 := hide r3
      have R4 := hide r4
      have hrO := hide ((unhide hI).rO.on r2)
      have HX := hide (hX.trans r2)
      have HK := hide ((unhide hI).kp.trans (KeepO.ext r2))
      clear hI hX r2 r3 r4
      go_wp2_with (at_builtin; refine Lib.wpList_append_run _ rfl (.tmp 45) (.tmp 46) 22 22 rfl _ _ rfl rfl _ _ r1 ?_)
      go_ret
      refine ⟨some ⟨g', 0, none⟩, cap', ?_, unhide HX, unhide HK, unhide hrO, ?_⟩
      · show Ending.returned (.slice (some ⟨g', 0, none⟩) (1 + out.length) cap') = .returned (.slice (some ⟨g', 0, none⟩) (out.length + 1) cap')
        rw [Nat.add_comm]
      · rcases unhide R4 with e | ⟨b, o, e, f, c⟩
        · exact Or.inl e
        · refine Or.inr ⟨b, o, e, ⟨f, ?_⟩, c⟩
          have h3 := unhide R3
          injection e with e
          injection e with e
          subst e
          omega

def ROrderE (w : World) (o : List Nat) (e : Ending) (w' : World) : Prop := ∃ ra rc, e = .returned (.slice ra o.length rc) ∧ Ext w w' ∧ RepI w' (In w') ra (zN o)
/-- The document's Order. -/
theorem rorder_nil (ga : Option Addr) (gc : Nat) (w : World) : Calls Try.prog 22 #[.slice ga 0 gc] w (ROrderE w []) := by
  go_enter Try.func22, Try.ntmps22
  go_wp2_with fail
  go_ret
  exact ⟨none, 0, rfl, Ext.refl _, Or.inl rfl⟩
end Go.Proofs.Ytmhcecofknemkaa
