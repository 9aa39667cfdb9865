/- Whether there are too many functions, or one is too great. · A program's functions under way. · The code of functions whose names mean that. -/
import Derived.Test.YtlgdjeiendmniaaGreatDoorZg36
set_option linter.unusedSimpArgs false
set_option linter.unusedVariables false
set_option maxRecDepth 10000

namespace Go.Proofs.YtlgdjeiendmniaaGreatDoor
open Go.RowKit

variable {g : Nat} {w w' w2 : World}

theorem fIx_none (P : PFn → Bool) : ∀ (l : List PFn) (i : Nat), (∀ p ∈ l, P p = false) → fIx P l i = -1
  | [], i, _ => rfl
  | p :: r, i, h => by rw [fIx, h p (by simp)]; exact fIx_none P r (i + 1) (fun q hq => h q (by simp [hq]))
theorem mainIx_f : ∀ (l : List PFn) (i : Nat), mainIx l i = fIx mnP l i
  | [], i => rfl
  | p :: r, i => by
    rw [mainIx, fIx, mainIx_f r (i + 1)]
    unfold mnP
    by_cases h : p.nm.data.toList = mainBs
    · rw [if_pos h, decide_eq_true h, if_pos rfl]
    · rw [if_neg h, decide_eq_false h, if_neg (by decide)]

set_option maxHeartbeats 2000000 in
theorem contains_m (fs : List PFn) (fa : Option Addr) (fc : Nat) (hl : fs.length ≤ 1000000) (hF : RepFL w (fun b => b < w.heap.size) fs fa) (hn : ∀ p ∈ fs, manyP p = false) :
    Calls Tryz.prog 30 #[.slice fa fs.length fc, .func (.func 31) #[] #[]] w fun e w' => e = .returned (.bool false) ∧ Ext w w' := by
  have H := idxMany fs fa fc hl hF
  rw [fIx_none manyP fs 0 hn] at H
  have H := hide H
  clear hF hn
  go_enter Tryz.func30, Tryz.ntmps30
  go_wp2_with (go_at_call 19; refine Calls.mono (unhide H) ?_; rintro e w1 ⟨rfl, hx⟩; have X1 := hide hx; clear hx)
  go_ret
  exact ⟨rfl, unhide X1⟩

set_option maxHeartbeats 2000000 in
theorem tooMany_m (fs : List PFn) (fa : Option Addr) (fc : Nat) (hF : RepFL w (fun b => b < w.heap.size) fs fa) (hn : tooP fs = false) :
    Calls Tryz.prog 15 #[.slice fa fs.length fc] w fun e w' => e = .returned (.bool false) ∧ Ext w w' := by
  unfold tooP at hn
  rw [Bool.or_eq_false_iff] at hn
  obtain ⟨h1, h2⟩ := hn
  have h1 := of_decide_eq_false h1
  have hm : ∀ p ∈ fs, manyP p = false := fun p hp => List.any_eq_false.1 h2 p hp |> fun h => by simpa [manyP] using h
  have H := hide (contains_m fs fa fc (by omega) hF hm)
  have h3 : ¬ (16 : Int) < (fs.length : Int) := by omega
  have h4 : decide ((16 : Int) < (fs.length : Int)) = false := decide_eq_false h3
  clear hF h2 hm
  go_enter Tryz.func15, Tryz.ntmps15
  go_wp2_with (go_at_call 30; refine Calls.mono (unhide H) ?_; rintro e w1 ⟨rfl, hx⟩; have X1 := hide hx; clear hx)
  go_ret
  exact ⟨ret_bool (by simp [h4]), unhide X1⟩

set_option maxHeartbeats 4000000 in
theorem tooGreat_m (fns : List V.KF) (pa : Option Addr) (pc : Nat) (m : Int) (K : Nat) (r : Bool) (hp : V.RepP w (V.In w) pa fns) (h0 : fns.length ≤ 1000000) (h1 : V.KfB fns) (hK : K ≤ 1000000) (hr : gGreat K fns fns.length 0 = some r) :
    Calls Tryz.prog 18 #[V.kpV pa fns.length pc m] w fun e w' => e = .returned (.bool r) ∧ Ext w w' := by
  have HV := hide (fun (W : World) (hX : Ext w W) (fn : Int) (v : Int × Int) (hv : V.kVirt fns fn K = some v) => V.virtual_w fns fn pa pc m K v W (hp.ext hX) h0 h1 hK hv)
  have HR := hide hr
  clear hp h1 hr
  obtain ⟨n, hn⟩ : ∃ n, n = fns.length := ⟨_, rfl⟩
  have hbx : (w.alloc (.cells #[.slice pa fns.length pc, .int .i64 m] 24)).heap[w.heap.size]? = some (.cells #[.slice pa fns.length pc, .int .i64 m] 24 (0, 0)) := Go.heap_alloc_new w _
  have HB := hide hbx
  clear hbx
  go_enter Tryz.func18, Tryz.ntmps18
  go_wp2_with fail
  go_loopw [9] (fun t wr => ∃ (j : Nat), t = .int .i64 (j : Int) ∧ j ≤ fns.length ∧ Hd (Ext (w.alloc (.cells #[.slice pa fns.length pc, .int .i64 m] 24)) wr) ∧ Hd (gGreat K fns (fns.length - j) j = some r)) (fun t _ => fns.length - (intOf t).toNat)
  case atStart => exact ⟨0, rfl, by omega, Ext.refl _, by simpa [Hd] using HR⟩
  case round =>
    obtain ⟨j, rfl, hj, hX, hE⟩ := hrel
    have X0 : Hd (Ext w wr) := (Ext.alloc _ _).trans (unhide hX)
    have b0 := rowC ((unhide hX).row (unhide HB)) 0 rfl
    have b1 := rowC ((unhide hX).row (unhide HB)) 1 rfl
    by_cases hlt : j < fns.length
    · have hlt2 : (j : Int) < (fns.length : Int) := by omega
      have hE2 := unhide hE
      rw [show fns.length - j = (fns.length - (j + 1)) + 1 by omega, gGreat] at hE2
      cases hv : V.kVirt fns (j : Int) K with
      | none => rw [hv] at hE2; cases hE2
      | some v =>
        rw [hv] at hE2
        simp only at hE2
        have HVv := hide (unhide HV wr (unhide X0) (j : Int) v hv)
        obtain ⟨v1, v2⟩ := v
        simp only at hE2 HVv
        clear hE hv
        by_cases h2 : v2 = 0
        · subst h2
          rw [if_pos rfl] at hE2
          have HE2 := hide hE2
          clear hE2
          go_wp2_with (go_at_call 7; refine Calls.mono (unhide HVv) ?_; rintro e w1 ⟨rfl, hx⟩; have X1 := hide ((unhide hX).trans hx); clear hx)
          go_roundw
          case rel => exact ⟨j + 1, by go_num, by omega, X1, HE2⟩
          case measure => simp [intOf]; omega
        · rw [if_neg h2] at hE2
          injection hE2 with hE2
          subst hE2
          have h3 : (v2 == 0) = false := by rw [beq_eq_false_iff_ne]; exact h2
          have h4 : (v2 != 0) = true := by rw [bne_iff_ne]; exact h2
          go_wp2_with (go_at_call 7; refine Calls.mono (unhide HVv) ?_; rintro e w1 ⟨rfl, hx⟩; have X1 : Hd (Ext w w1) := (unhide X0).trans hx; clear hx)
          go_ret
          exact ⟨rfl, unhide X1⟩
    · obtain rfl : fns.length = j := by omega
      have hE2 := unhide hE
      rw [Nat.sub_self, gGreat] at hE2
      injection hE2 with hE2
      subst hE2
      go_wp2_with fail
      go_ret
      exact ⟨rfl, unhide X0⟩

end Go.Proofs.YtlgdjeiendmniaaGreatDoor

namespace Go.Proofs.YtlgdjeiendmniaaGreatDoor
open Go.RowKit

variable {g : Nat} {w w' w2 : World}

abbrev KAd := (Option Addr × Nat) × (Option Addr × Nat)
abbrev kfC (f : V.KF) (a : KAd) : List Value := [.string f.nm, .int .i64 f.ps, .int .i64 f.lc, .slice a.1.1 f.cs.length a.1.2, .slice a.2.1 f.code.length a.2.2]
def kfsC : List V.KF → List KAd → List Value
  | f :: r, a :: s => kfC f a ++ kfsC r s
  | _, _ => []
theorem kfsC_app : ∀ (l : List V.KF) (s : List KAd) (f : V.KF) (a : KAd), s.length = l.length → kfsC (l ++ [f]) (s ++ [a]) = kfsC l s ++ kfC f a
  | [], [], f, a, h => by simp [kfsC]
  | x :: l, y :: s, f, a, h => by
    rw [List.cons_append, List.cons_append, kfsC, kfsC, kfsC_app l s f a (by simpa using h), List.append_assoc]
  | [], _ :: _, f, a, h => by simp at h
  | _ :: _, [], f, a, h => by simp at h
theorem kfsC_at : ∀ (l : List V.KF) (s : List KAd) (j : Nat) (f : V.KF) (a : KAd), l[j]? = some f → s[j]? = some a → ∀ r u, (kfC f a)[r]? = some u → (kfsC l s)[j * 5 + r]? = some u
  | [], s, j, f, a, h, _ => by simp at h
  | x :: l, [], j, f, a, _, h => by simp at h
  | x :: l, y :: s, 0, f, a, h1, h2 => by
    obtain rfl : x = f := by simpa using h1
    obtain rfl : y = a := by simpa using h2
    intro r u hu
    rw [kfsC, Nat.zero_mul, Nat.zero_add, List.getElem?_append_left (List.getElem?_eq_some_iff.1 hu).1]
    exact hu
  | x :: l, y :: s, j + 1, f, a, h1, h2 => by
    intro r u hu
    have ih := kfsC_at l s j f a (by simpa using h1) (by simpa using h2) r u hu
    rw [kfsC, show (j + 1) * 5 + r = (kfC x y).length + (j * 5 + r) by simp; omega, List.getElem?_append_right (by omega), Nat.add_sub_cancel_left]
    exact ih

/-- The block bp holds a program; the rows of its functions lie in memory of their own. -/
structure PgS (w0 wr : World) (bp : Nat) (fns : List V.KF) (ads : List KAd) (pa : Option Addr) (pc : Nat) : Prop where
  ext : Ext w0 wr
  ge : w0.heap.size ≤ bp
  row : wr.heap[bp]? = some (.cells #[.slice pa fns.length pc, .int .i64 0] 24 (0, 0))
  len : ads.length = fns.length
  own : wr.ownsRow (bp + 1) 31 5 (.slice pa fns.length pc) fns.length (kfsC fns ads)
  rep : ∀ (i : Nat) (f : V.KF) (a : KAd), fns[i]? = some f → ads[i]? = some a → V.RepL wr (fun q => q < wr.heap.size ∧ bp < q ∧ (Value.slice pa fns.length pc).ownBlock ≠ some q) f.cs a.1.1 ∧ V.RepC wr (fun q => q < wr.heap.size ∧ bp < q ∧ (Value.slice pa fns.length pc).ownBlock ≠ some q) a.2.1 f.code
theorem PgS.lt {wr : World} {bp : Nat} {fns : List V.KF} {ads : List KAd} {pa : Option Addr} {pc : Nat} (h : PgS w wr bp fns ads pa pc) : bp < wr.heap.size := (Array.getElem?_eq_some_iff.1 h.row).1
/-- What lies below a block is as it was: then the program is. -/
theorem PgS.keep {wr w3 : World} {bp : Nat} {fns : List V.KF} {ads : List KAd} {pa : Option Addr} {pc : Nat} (h : PgS w wr bp fns ads pa pc) (he : Ext w w3) (hs : wr.heap.size ≤ w3.heap.size) (hk : ∀ q, q < wr.heap.size → w3.heap[q]? = wr.heap[q]?) : PgS w w3 bp fns ads pa pc :=
  ⟨he, h.ge, (hk bp h.lt).trans h.row, h.len, own_keepM h.own (fun q hq => hk q (h.own.lt q hq).2), fun i f a h1 h2 => by
    obtain ⟨r1, r2⟩ := h.rep i f a h1 h2
    exact ⟨V.RepL.to (fun q hq => ⟨⟨Nat.lt_of_lt_of_le hq.1 hs, hq.2⟩, hk q hq.1⟩) _ _ r1, r2.to (fun q hq => ⟨⟨Nat.lt_of_lt_of_le hq.1 hs, hq.2⟩, hk q hq.1⟩)⟩⟩
theorem PgS.on {wr w3 : World} {bp : Nat} {fns : List V.KF} {ads : List KAd} {pa : Option Addr} {pc : Nat} (h : PgS w wr bp fns ads pa pc) (k : Ext wr w3) : PgS w w3 bp fns ads pa pc := h.keep (h.ext.trans k) k.size k.block
/-- The functions as an argument. -/
theorem PgS.prog {wr : World} {bp : Nat} {fns : List V.KF} {ads : List KAd} {pa : Option Addr} {pc : Nat} (h : PgS w wr bp fns ads pa pc) : V.RepP wr (fun q => q < wr.heap.size ∧ bp < q) pa fns := by
  rcases id h.own.2 with ⟨e, e0⟩ | ⟨b, cap, cur, e, hb, hg, hn, _⟩
  · exact Or.inl (List.length_eq_zero_iff.1 e0)
  · injection e with e1 e2 e3
    subst e1 e3
    refine Or.inr ⟨b, 0, rfl, ⟨(Array.getElem?_eq_some_iff.1 hg).1, by omega⟩, fun j f hf => ?_⟩
    have hlt := (List.getElem?_eq_some_iff.1 hf).1
    obtain ⟨a, ha⟩ : ∃ a, ads[j]? = some a := ⟨_, List.getElem?_eq_getElem (by rw [h.len]; exact hlt)⟩
    have hc := kfsC_at fns ads j f a hf ha
    have e : ∀ n, (⟨b, 0, none⟩ : Addr).add n = ⟨b, n, none⟩ := fun n => by cases n <;> simp [Addr.add]
    have k0 := h.own.cells (g := b) rfl _ _ (hc 0 _ rfl)
    have k1 := h.own.cells (g := b) rfl _ _ (hc 1 _ rfl)
    have k2 := h.own.cells (g := b) rfl _ _ (hc 2 _ rfl)
    have k3 := h.own.cells (g := b) rfl _ _ (hc 3 _ rfl)
    have k4 := h.own.cells (g := b) rfl _ _ (hc 4 _ rfl)
    rw [e] at k0 k1 k2 k3 k4
    obtain ⟨r1, r2⟩ := h.rep j f a hf ha
    refine ⟨a.1.1, a.1.2, a.2.1, a.2.2, ?_⟩
    rw [Nat.zero_add]
    exact ⟨k0, k1, k2, k3, k4, V.RepL.to (fun q hq => ⟨⟨hq.1, hq.2.1⟩, rfl⟩) _ _ r1, r2.to (fun q hq => ⟨⟨hq.1, hq.2.1⟩, rfl⟩)⟩
/-- A function more. -/
theorem PgS.add {wr W w3 : World} {bp : Nat} {fns : List V.KF} {ads : List KAd} {pa : Option Addr} {pc g' cap' : Nat} {ob : Obj} (h : PgS w wr bp fns ads pa pc) (x : PgS w W bp fns ads pa pc) (hsz : wr.heap.size ≤ W.heap.size) (f : V.KF) (a : KAd)
    (hr : V.RepL W (fun q => wr.heap.size ≤ q ∧ q < W.heap.size) f.cs a.1.1 ∧ V.RepC W (fun q => wr.heap.size ≤ q ∧ q < W.heap.size) a.2.1 f.code)
    (g1 : (W.alloc ob).grownBy w3 (Value.slice pa fns.length pc).ownBlock)
    (ho : w3.ownsRow (bp + 1) 31 5 (.slice (some ⟨g', 0, none⟩) (fns.length + 1) cap') (fns.length + 1) (kfsC fns ads ++ kfC f a))
    (hw : (Value.slice pa fns.length pc).ownBlock = some g' ∨ W.heap.size + 1 ≤ g') :
    PgS w (w3.setCell ⟨bp, 0, none⟩ (.slice (some ⟨g', 0, none⟩) (fns.length + 1) cap')) bp (fns ++ [f]) (ads ++ [a]) (some ⟨g', 0, none⟩) cap' := by
  have hbl := h.lt
  have hs1 : (W.alloc ob).heap.size = W.heap.size + 1 := by simp
  have hs3 := g1.size
  have ownlt : ∀ q, (Value.slice pa fns.length pc).ownBlock = some q → bp + 1 ≤ q ∧ q < wr.heap.size := fun q e => h.own.lt q e
  have kp : ∀ q, q < W.heap.size → (Value.slice pa fns.length pc).ownBlock ≠ some q → w3.heap[q]? = W.heap[q]? := fun q hq hne => (g1.block q (by omega) (fun e => hne e.symm)).trans ((Ext.alloc W ob).block q hq)
  have hbp3 : w3.heap[bp]? = some (.cells #[.slice pa fns.length pc, .int .i64 0] 24 (0, 0)) := (kp bp (by omega) (fun e => by have := (ownlt bp e).1; omega)).trans x.row
  have hbg : bp + 1 ≤ g' := (ho.lt g' rfl).1
  have hl : (fns ++ [f]).length = fns.length + 1 := by simp
  have e3 : Ext w w3 := by
    refine Below.grown (x.ext.trans (Ext.alloc W ob)) g1 (x.ext.trans (Ext.alloc W ob)).size (fun j hj => ?_)
    have := (ownlt j hj).1
    have := h.ge
    omega
  have ks : ∀ q, q ≠ bp → (w3.setCell ⟨bp, 0, none⟩ (.slice (some ⟨g', 0, none⟩) (fns.length + 1) cap')).heap[q]? = w3.heap[q]? := fun q hq => Below.heap_setCell _ _ _ _ hq
  have sz : (w3.setCell ⟨bp, 0, none⟩ (.slice (some ⟨g', 0, none⟩) (fns.length + 1) cap')).heap.size = w3.heap.size := by simp [World.setCell]
  refine ⟨e3.set (p := ⟨bp, 0, none⟩) h.ge _, h.ge, ?_, by simp [h.len], ?_, fun i f2 a2 h1 h2 => ?_⟩
  · have := row_set hbp3 0 (.slice (some ⟨g', 0, none⟩) (fns.length + 1) cap')
    rw [hl]
    exact this
  · rw [kfsC_app _ _ _ _ h.len, hl]
    exact ownsRow_setCell_below ho (Nat.lt_succ_self bp) _
  · rw [hl]
    have go : ∀ (q : Nat), q < W.heap.size → bp < q → (Value.slice pa fns.length pc).ownBlock ≠ some q → (q < (w3.setCell ⟨bp, 0, none⟩ (.slice (some ⟨g', 0, none⟩) (fns.length + 1) cap')).heap.size ∧ bp < q ∧ (Value.slice (some (⟨g', 0, none⟩ : Addr)) (fns.length + 1) cap').ownBlock ≠ some q) ∧ (w3.setCell ⟨bp, 0, none⟩ (.slice (some ⟨g', 0, none⟩) (fns.length + 1) cap')).heap[q]? = W.heap[q]? := fun q hq hne hnq => by
      refine ⟨⟨by rw [sz]; omega, hne, fun e => ?_⟩, (ks q (by omega)).trans (kp q hq hnq)⟩
      simp only [Value.ownBlock, Option.some.injEq] at e
      subst e
      rcases hw with e | e
      · exact hnq e
      · omega
    by_cases hi : i < fns.length
    · rw [List.getElem?_append_left hi] at h1
      rw [List.getElem?_append_left (by rw [h.len]; exact hi)] at h2
      obtain ⟨r1, r2⟩ := x.rep i f2 a2 h1 h2
      exact ⟨V.RepL.to (fun q hq => go q hq.1 hq.2.1 hq.2.2) _ _ r1, r2.to (fun q hq => go q hq.1 hq.2.1 hq.2.2)⟩
    · have h1' := (List.getElem?_eq_some_iff.1 h1).1
      rw [hl] at h1'
      obtain rfl : i = fns.length := by omega
      rw [List.getElem?_append_right (by omega), Nat.sub_self] at h1
      rw [List.getElem?_append_right (by rw [h.len]; omega), h.len, Nat.sub_self] at h2
      injection h1 with h1
      injection h2 with h2
      subst h1 h2
      have go2 : ∀ q, wr.heap.size ≤ q ∧ q < W.heap.size → (q < (w3.setCell ⟨bp, 0, none⟩ (.slice (some ⟨g', 0, none⟩) (fns.length + 1) cap')).heap.size ∧ bp < q ∧ (Value.slice (some (⟨g', 0, none⟩ : Addr)) (fns.length + 1) cap').ownBlock ≠ some q) ∧ (w3.setCell ⟨bp, 0, none⟩ (.slice (some ⟨g', 0, none⟩) (fns.length + 1) cap')).heap[q]? = W.heap[q]? := fun q hq => go q hq.2 (by omega) (fun e => by have := (ownlt q e).2; omega)
      exact ⟨V.RepL.to go2 _ _ hr.1, hr.2.to go2⟩

end Go.Proofs.YtlgdjeiendmniaaGreatDoor

namespace Go.Proofs.YtlgdjeiendmniaaGreatDoor
open Go.RowKit

variable {g : Nat} {w w' w2 : World}

abbrev prO (pa : Option Addr) (n pc : Nat) (m : Int) : Obj := .cells #[.slice pa n pc, .int .i64 m] 24 (0, 0)
theorem FnAt.of {fs : List PFn} {fa : Option Addr} {i : Nat} {p : PFn} {G g : Nat} {W : World} (h : RepFL w (fun b => b < G) fs fa) (hp : fs[i]? = some p) (hg : G ≤ g) (hk : ∀ b, b < G → W.heap[b]? = w.heap[b]?) : ∃ fb fo, fa = some ⟨fb, fo, none⟩ ∧ FnAt W g p fb (fo + i * 7) := by
  obtain ⟨b, off, pa, pc, qa, qc, e1, hb, hc, _, _, hq, hl⟩ := h.at i p hp
  have e : ∀ o, W.cell? ⟨b, o, none⟩ = w.cell? ⟨b, o, none⟩ := fun o => World.cell?_of_block (w := w) (hk b hb)
  have c0 := hc 0 _ rfl
  rw [Nat.add_zero] at c0
  refine ⟨b, off, e1, by rw [e]; exact c0, ⟨pa, pc, by rw [e]; exact hc 1 _ rfl⟩, by omega, qa, qc, ?_⟩
  exact ⟨by rw [e]; exact hc 2 _ rfl, by rw [e]; exact hc 3 _ rfl, by rw [e]; exact hc 4 _ rfl, by rw [e]; exact hc 5 _ rfl, by rw [e]; exact hc 6 _ rfl, hq, RepNL.to (fun q hq => ⟨by omega, hk q hq⟩) _ _ hl⟩
theorem rowSc_at2 {F : Nat → Prop} : ∀ {ps : List PSc} {xs : List Value}, RowSc w F ps xs → ∀ (i : Nat) (p : PSc), ps[i]? = some p → ∃ sa sc ca cc, xs[i * 3]? = some (.int .i64 p.lc) ∧ xs[i * 3 + 1]? = some (.slice sa p.sl.length sc) ∧ xs[i * 3 + 2]? = some (.slice ca p.cl.length cc) ∧ p.cl.length ≤ cc ∧ RepI w F ca p.cl := by
  intro ps
  induction ps with
  | nil => intro xs _ i p h; simp at h
  | cons q ps ih =>
    intro xs hx i p hp
    obtain ⟨sa, sc, ca, cc, rest, rfl, h1, h2, h3, h4, hr⟩ := hx
    cases i with
    | zero =>
      simp at hp
      subst hp
      exact ⟨sa, sc, ca, cc, rfl, rfl, rfl, h3, h4⟩
    | succ j =>
      simp at hp
      obtain ⟨sa', sc', ca', cc', r0, r1, r2, r3, r4⟩ := ih hr j p hp
      refine ⟨sa', sc', ca', cc', ?_, ?_, ?_, r3, r4⟩
      · rw [show (j + 1) * 3 = 3 + j * 3 by omega, List.getElem?_append_right (by simp)]; simpa using r0
      · rw [show (j + 1) * 3 + 1 = 3 + (j * 3 + 1) by omega, List.getElem?_append_right (by simp)]; simpa using r1
      · rw [show (j + 1) * 3 + 2 = 3 + (j * 3 + 2) by omega, List.getElem?_append_right (by simp)]; simpa using r2
/-- What the names of one function mean, in a later world. -/
theorem scAt {ps : List PSc} {a : Option Addr} {G : Nat} {W : World} (h : RepSc w (fun b => b < G) ps a) (i : Nat) (p : PSc) (hp : ps[i]? = some p) (hk : ∀ b, b < G → W.heap[b]? = w.heap[b]?) : ∃ b sa sc ca cc, a = some ⟨b, 0, none⟩ ∧ W.cell? ⟨b, i * 3, none⟩ = some (.int .i64 p.lc) ∧ W.cell? ⟨b, i * 3 + 1, none⟩ = some (.slice sa p.sl.length sc) ∧ W.cell? ⟨b, i * 3 + 2, none⟩ = some (.slice ca p.cl.length cc) ∧ p.cl.length ≤ cc ∧ b < G ∧ RepO W (fun b => b < G) p.cl ca := by
  rcases h with rfl | ⟨b, xs, rfl, hb, hrow, hc⟩
  · simp at hp
  · obtain ⟨sa, sc, ca, cc, h1, h2, h3, h4, h5⟩ := rowSc_at2 hrow i p hp
    have e : ∀ o, W.cell? ⟨b, o, none⟩ = w.cell? ⟨b, o, none⟩ := fun o => World.cell?_of_block (w := w) (hk b hb)
    refine ⟨b, sa, sc, ca, cc, rfl, by rw [e]; exact hc _ _ h1, by rw [e]; exact hc _ _ h2, by rw [e]; exact hc _ _ h3, h4, hb, ?_⟩
    rcases h5 with h5 | ⟨b2, rfl, hb2, hc2⟩
    · exact Or.inl h5
    · refine Or.inr ⟨b2, 0, rfl, hb2, fun j x hx => ?_⟩
      rw [Nat.zero_add, World.cell?_of_block (w := w) (hk b2 hb2)]
      exact hc2 j x hx
theorem gS_tk {f : Nat} {x : PN} {cl : List Int} {tk : Int} {m : GM} (hm : (⟨[], [], cl, tk⟩ : GM).ok = true) (h : gFn f x cl tk = some m) : ∃ m1, gS f x ⟨[], [], cl, tk⟩ = some m1 ∧ m = (m1.give none).lay 10 0 0 ∧ m1.ok = true ∧ m.tk = m1.tk := by
  unfold gFn at h
  cases hq : gS f x ⟨[], [], cl, tk⟩ with
  | none => rw [hq] at h; cases h
  | some m1 =>
    rw [hq] at h
    injection h with h
    refine ⟨m1, rfl, h.symm, (gS_both f x _ m1 hq).2 hm, ?_⟩
    rw [← h]
    unfold GM.lay GM.give
    split <;> rfl
theorem MK.init {W : World} {cl : List Int} {ca : Option Addr} {cc : Nat} {tk : Int} {sv : Value} (hg : W.heap[g]? = some (mkO (.slice none 0 0) (.slice none 0 0) sv (.slice ca cl.length cc) tk (.pointer none))) (h1 : cl.length ≤ cc) (h2 : RepO W (fun b => b < g) cl ca) : MK g W ⟨[], [], cl, tk⟩ sv (.pointer none) :=
  ⟨none, 0, none, 0, ca, cc, hg, World.ownsRow_nil _ _ _ _, World.ownsRow_nil _ _ _ _, h1, h2⟩
theorem gc_repF (v : Option Int) (hv : gcB v = true) (W : World) (F : Nat → Prop) : V.Rep W F (gcP v) (.agg #[.int .i64 (gcK v), .int .i64 (gcN v), .complex .f64 0 0, .string ⟨#[]⟩, .slice none 0 0]) := by
  cases v with
  | none =>
    unfold gcP
    rw [V.Rep]
    exact ⟨none, 0, rfl, by constructor <;> decide, by simp [V.RepL]⟩
  | some n =>
    unfold gcB at hv
    have h := of_decide_eq_true hv
    unfold gcP
    rw [V.Rep]
    exact ⟨none, 0, rfl, by constructor <;> first | decide | exact h.1 | exact h.2, by simp [V.RepL]⟩
theorem repL_of {F : Nat → Prop} {b : Nat} (hF : F b) : ∀ (l : List (Option Int)) (off : Nat), (∀ v ∈ l, gcB v = true) → (∀ (i : Nat) (u : Value), (l.flatMap gcC)[i]? = some u → w.cell? ⟨b, off + i, none⟩ = some u) → V.RepL w F (l.map gcP) (some ⟨b, off, none⟩)
  | [], off, _, _ => by simp [V.RepL]
  | v :: l, off, hv, hc => by
    rw [List.map_cons, V.RepL]
    have c0 := hc 0 (.int .i64 (gcK v)) rfl
    have c1 := hc 1 (.int .i64 (gcN v)) rfl
    have c2 := hc 2 (.complex .f64 0 0) rfl
    have c3 := hc 3 (.string ⟨#[]⟩) rfl
    have c4 := hc 4 (.slice none 0 0) rfl
    refine ⟨b, off, _, _, _, _, _, rfl, hF, gc_repF v (hv v (by simp)) w F, by simpa using c0, c1, c2, c3, c4, repL_of hF l (off + 5) (fun u hu => hv u (by simp [hu])) (fun i u hu => ?_)⟩
    have := hc (5 + i) u (by rw [List.flatMap_cons, List.getElem?_append_right (by simp)]; simpa using hu)
    rw [show off + 5 + i = off + (5 + i) by omega]
    exact this
/-- The rows of a maker that is done. -/
theorem MS.rows {d : GM} {sv lp : Value} {ka ca la : Option Addr} {kc cc lc : Nat} (h : MS g w d sv lp ka kc ca cc la lc) (hb : d.cs.all gcB = true) : V.RepL w (fun q => g ≤ q ∧ q < w.heap.size) (d.cs.map gcP) ca ∧ V.RepC w (fun q => g ≤ q ∧ q < w.heap.size) ka d.code := by
  have e : ∀ b n, (⟨b, 0, none⟩ : Addr).add n = ⟨b, n, none⟩ := fun b n => by cases n <;> simp [Addr.add]
  constructor
  · rcases id h.oc.2 with ⟨e1, e0⟩ | ⟨b, cap, cur, e1, hbb, hg, hn, _⟩
    · rw [List.length_eq_zero_iff.1 e0]
      simp [V.RepL]
    · injection e1 with e1 e2 e3
      subst e1 e3
      refine repL_of ⟨by omega, (Array.getElem?_eq_some_iff.1 hg).1⟩ d.cs 0 (fun v hv => List.all_eq_true.1 hb v hv) (fun i u hu => ?_)
      have := h.oc.cells (g := b) rfl _ _ hu
      rw [e] at this
      rw [Nat.zero_add]
      exact this
  · rcases id h.ok.2 with ⟨e1, e0⟩ | ⟨b, cap, cur, e1, hbb, hg, hn, _⟩
    · exact Or.inl (List.length_eq_zero_iff.1 e0)
    · injection e1 with e1 e2 e3
      subst e1 e3
      refine Or.inr ⟨b, 0, rfl, ⟨by omega, (Array.getElem?_eq_some_iff.1 hg).1⟩, fun j i hi => ?_⟩
      obtain ⟨k0, k1, k2⟩ := kiC_at d.code j i hi
      have k0 := h.ok.cells (g := b) rfl _ _ k0
      have k1 := h.ok.cells (g := b) rfl _ _ k1
      have k2 := h.ok.cells (g := b) rfl _ _ k2
      rw [e] at k0 k1 k2
      rw [Nat.zero_add]
      exact ⟨k0, k1, k2⟩

end Go.Proofs.YtlgdjeiendmniaaGreatDoor
