/- The writer of parse: an if, and what stands behind an else. · The writer of parse: a statement. · The writer of parse: a block. · The writer of parse: the names of parameters. -/
import Derived.Test.YthoablpjkgeekaaGreatDoorZc38
import Derived.Test.YthoablpjkgeekaaGreatDoorZc32
set_option linter.unusedSimpArgs false
set_option linter.unusedVariables false
set_option maxRecDepth 10000

namespace Go.Proofs.YthoablpjkgeekaaGreatDoor
open Go.RowKit

theorem repNL_two {w : World} {F : Nat → Prop} {p q r : PN} {a : Option Addr} (h : RepNL w F [p, q, r] a) : RepNL w F [p, q] a := by
  rw [RepNL] at h ⊢
  obtain ⟨b, off, c0, c1, c2, c3, c4, rfl, hf, hr, h0, h1, h2, h3, h4, h⟩ := h
  refine ⟨b, off, c0, c1, c2, c3, c4, rfl, hf, hr, h0, h1, h2, h3, h4, ?_⟩
  rw [RepNL] at h ⊢
  obtain ⟨b', off', f0, f1, f2, f3, f4, he, hf', hr', g0, g1, g2, g3, g4, _⟩ := h
  exact ⟨b', off', f0, f1, f2, f3, f4, he, hf', hr', g0, g1, g2, g3, g4, by rw [RepNL]; trivial⟩

set_option maxHeartbeats 1000000 in
theorem choice_w (g : Nat) (E : PN → Int → WrP) (B O : PN → WrP) (l : List PN) (a : Option Addr) (cap : Nat) (x y : WS3) (w : World) (I : WrI w g x) (hN : RepNL w (fun b => b < g) l a) (hE : ExW g E) (hB : BkW g 56 B) (hO : BkW g 132 O) (hcap : l.length ≤ cap) (hy : wCho E B O l x = some y) :
    Calls Tryz.prog 108 #[.pointer (some ⟨g, 0, none⟩), .slice a l.length cap] w (WrE g w y) := by
  have HO := hide hO
  have X0 := hide I
  have K0 : Hd (WrK g w w) := WrK.refl _ _
  have HG := hide (fun (l : List PN) (cap : Nat) (y : WS3) (hN : RepNL w (fun b => b < g) l a) (hy : wGrd E B ⟨#[105, 102]⟩ l x = some y) => guarded_w g E B ⟨#[105, 102]⟩ (by decide) l a cap x y w I hN hE hB hy)
  clear hO hE hB I
  by_cases h1 : l.length = 3
  · match l, h1, hy, hN, hcap with
    | [p, q, r], _, hy', hN', hcap' =>
      clear hy hN h1 hcap
      have hc3 : 3 ≤ cap := hcap'
      obtain ⟨z, hz, hq⟩ : ∃ z, wGrd E B ⟨#[105, 102]⟩ [p, q] x = some z ∧ O r (wW z [⟨#[101, 108, 115, 101]⟩]) = some y := by
        unfold wCho at hy'
        simp only at hy'
        split at hy'
        · cases hy'
        · rename_i z hz
          exact ⟨z, hz, hy'⟩
      clear hy' hcap'
      have HG2 := hide (unhide HG [p, q] cap z (repNL_two hN') hz)
      obtain ⟨b, off, c0, c1, c2, c3, c4, rfl, hb, hr, e0, e1, e2, e3, e4⟩ := repNL_at hN' 2 r rfl
      have HC0 : Hd (∀ W, WrK g w W → Ch5 W b (off + 2 * 5) c0 c1 c2 c3 c4) := fun W k => by
        have hk := k.low b hb
        refine ⟨?_, ?_, ?_, ?_, ?_⟩ <;> (rw [World.cell?_of_block (w := w) hk]; assumption)
      have HY1 := hide hq
      have HT0 := hide hr
      clear hN' hz hq hr e0 e1 e2 e3 e4 HG
      have hl1 : ([p, q, r] : List PN).length = 3 := rfl
      rw [hl1]
      have hl2 : ([p, q] : List PN).length = 2 := rfl
      rw [hl2] at HG2
      go_enter Tryz.func108, Tryz.ntmps108
      go_wp2_with (first
        | (have T9 := unhide X0; go_at_call 109; refine Calls.mono (unhide HG2) ?_; rintro e w1 ⟨rfl, h9, l9, k9⟩; have K1 := hide ((unhide K0).trans k9); have X1 := hide ((unhide X0).go k9 h9 l9); clear h9 l9 k9 T9 X0)
        | (have T9 := unhide X1; go_at_call 54; refine Calls.mono (words1 g _ ⟨#[101, 108, 115, 101]⟩ _ _ (by first | rfl | simp) T9 (by decide)) ?_; rintro e w2 ⟨rfl, h9, l9, k9⟩; have K2 := hide ((unhide K1).trans k9); have X2 := hide ((unhide X1).go k9 h9 l9); obtain ⟨d00, d01, d02, d03, d04⟩ := unhide HC0 _ (unhide K2); clear h9 l9 k9 T9 X1)
        | (have T9 := unhide X2; go_at_call 132; refine Calls.mono (unhide HO _ _ _ _ _ (unhide HY1) T9 ((unhide HT0).wrk (unhide K2))) ?_; rintro e w3 ⟨rfl, h9, l9, k9⟩; have K3 := hide ((unhide K2).trans k9); have X3 := hide ((unhide X2).go k9 h9 l9); clear h9 l9 k9 T9 X2))
      go_end0
      exact ⟨rfl, (unhide X3).wr, (unhide X3).len, unhide K3⟩
  · have hy2 : wGrd E B ⟨#[105, 102]⟩ l x = some y := by
      match l, h1, hy with
      | [], _, h => exact h
      | [_], _, h => exact h
      | [_, _], _, h => exact h
      | _ :: _ :: _ :: _ :: _, _, h => exact h
      | [_, _, _], h, _ => simp at h
    clear hy
    have h2 : ¬ ((l.length : Int) = 3) := by omega
    have HG2 := hide (unhide HG l cap y hN hy2)
    clear HG hy2 hN
    go_enter Tryz.func108, Tryz.ntmps108
    go_wp2_with (have T9 := unhide X0; go_at_call 109; refine Calls.mono (unhide HG2) ?_; rintro e w1 ⟨rfl, h9, l9, k9⟩; have K1 := hide ((unhide K0).trans k9); have X1 := hide ((unhide X0).go k9 h9 l9); clear h9 l9 k9 T9 X0)
    go_end0
    exact ⟨rfl, (unhide X1).wr, (unhide X1).len, unhide K1⟩

set_option maxHeartbeats 1000000 in
theorem other_w (g : Nat) (S B : PN → WrP) (hS : BkW g 82 S) (hB : BkW g 56 B) : BkW g 132 (wOth S B) := by
  intro p x y v w hy I hN
  obtain ⟨pk, po, ps, pn, pl⟩ := p
  have HTr := hide (fun (W : World) (k : WrK g w W) => hN.wrk k)
  rw [RepN] at hN
  obtain ⟨a, cap, rfl, hcap, hL⟩ := hN
  have hg := I.wr.lt
  have HB := hide hB
  have HS := hide hS
  have hW1 : Hd (WrK g w (w.alloc (nodW pk po ps pn a pl.length cap))) := WrK.ext (Ext.alloc _ _) hg
  have X0 : Hd (WrI (w.alloc (nodW pk po ps pn a pl.length cap)) g x) := I.ext (Ext.alloc _ _)
  obtain ⟨n0, n1, n2, n3, n4⟩ := nbox hg (WrK.refl g (w.alloc (nodW pk po ps pn a pl.length cap)))
  clear hB hS I
  unfold wOth at hy
  simp only at hy
  by_cases h10 : pk = 10
  case neg =>
    rw [if_neg h10] at hy
    have HY := hide hy
    clear hy hL
    go_enter Tryz.func132, Tryz.ntmps132
    go_wp2_with (first
      | (have T9 := unhide X0; go_at_call 56; refine Calls.mono (unhide HB _ _ _ _ _ (unhide HY) T9 (unhide HTr _ (unhide hW1))) ?_; rintro e w1 ⟨rfl, h9, l9, k9⟩; have K1 := hide ((unhide hW1).trans k9); have X1 := hide ((unhide X0).go k9 h9 l9); clear h9 l9 k9 T9 X0))
    go_end0
    exact ⟨rfl, (unhide X1).wr, (unhide X1).len, unhide K1⟩
  rw [if_pos h10] at hy
  subst h10
  by_cases h1 : pl.length = 1
  case neg =>
    have hy2 : B ⟨10, po, ps, pn, pl⟩ x = some y := by
      match pl, h1, hy with
      | [], _, h => exact h
      | _ :: _ :: _, _, h => exact h
      | [_], h, _ => simp at h
    have HY := hide hy2
    have h2 : ¬ ((pl.length : Int) = 1) := by omega
    clear hy hy2 hL
    go_enter Tryz.func132, Tryz.ntmps132
    go_wp2_with (first
      | (have T9 := unhide X0; go_at_call 56; refine Calls.mono (unhide HB _ _ _ _ _ (unhide HY) T9 (unhide HTr _ (unhide hW1))) ?_; rintro e w1 ⟨rfl, h9, l9, k9⟩; have K1 := hide ((unhide hW1).trans k9); have X1 := hide ((unhide X0).go k9 h9 l9); clear h9 l9 k9 T9 X0))
    go_end0
    exact ⟨rfl, (unhide X1).wr, (unhide X1).len, unhide K1⟩
  match pl, h1, hy, hL, hcap, n4, X0, hW1, HTr, n0, n1, n2, n3 with
  | [q], _, hy', hL', hcap', n4', X0', hW1', HTr', n0', n1', n2', n3' =>
    clear hy hL hcap n4 X0 hW1 HTr n0 n1 n2 n3 h1
    have X0 := X0'
    have hW1 := hW1'
    have HTr := HTr'
    clear X0' hW1' HTr'
    obtain ⟨b, off, c0, c1, c2, c3, c4, rfl, hb, hr, e0, e1, e2, e3, e4⟩ := repNL_at hL' 0 q rfl
    rw [Nat.zero_mul, Nat.add_zero] at e0 e1 e2 e3 e4
    obtain ⟨qk, qo, qs, qn, ql⟩ := q
    have HT0 := hide (fun (W : World) (k : WrK g w W) => hr.wrk k)
    rw [RepN] at hr
    obtain ⟨qa, qcap, hqv, _, _⟩ := hr
    injection hqv with hqv
    simp only [Array.mk.injEq, List.cons.injEq, and_true] at hqv
    obtain ⟨rfl, rfl, rfl, rfl, rfl⟩ := hqv
    have hk := (unhide hW1).low b hb
    have d0 := (World.cell?_of_block (a := ⟨b, off, none⟩) (w := w) hk).trans e0
    have d1 := (World.cell?_of_block (a := ⟨b, off + 1, none⟩) (w := w) hk).trans e1
    have d2 := (World.cell?_of_block (a := ⟨b, off + 2, none⟩) (w := w) hk).trans e2
    have d3 := (World.cell?_of_block (a := ⟨b, off + 3, none⟩) (w := w) hk).trans e3
    have d4 := (World.cell?_of_block (a := ⟨b, off + 4, none⟩) (w := w) hk).trans e4
    clear hk e0 e1 e2 e3 e4 hL' hcap'
    have hl1 : ([⟨qk, qo, qs, qn, ql⟩] : List PN).length = 1 := rfl
    simp only [hl1] at X0 hW1 HTr n4' n0' n1' n2' n3' d0 d1 d2 d3 d4 ⊢
    simp only at hy'
    by_cases h3 : qk = 3
    · rw [if_pos h3] at hy'
      subst h3
      have HY := hide hy'
      clear hy'
      go_enter Tryz.func132, Tryz.ntmps132
      go_wp2_with (first
        | (have T9 := unhide X0; go_at_call 82; refine Calls.mono (unhide HS _ _ _ _ _ (unhide HY) T9 (unhide HT0 _ (unhide hW1))) ?_; rintro e w1 ⟨rfl, h9, l9, k9⟩; have K1 := hide ((unhide hW1).trans k9); have X1 := hide ((unhide X0).go k9 h9 l9); clear h9 l9 k9 T9 X0))
      go_end0
      exact ⟨rfl, (unhide X1).wr, (unhide X1).len, unhide K1⟩
    · rw [if_neg h3] at hy'
      have HY := hide hy'
      clear hy'
      go_enter Tryz.func132, Tryz.ntmps132
      go_wp2_with (first
        | (have T9 := unhide X0; go_at_call 56; refine Calls.mono (unhide HB _ _ _ _ _ (unhide HY) T9 (unhide HTr _ (unhide hW1))) ?_; rintro e w1 ⟨rfl, h9, l9, k9⟩; have K1 := hide ((unhide hW1).trans k9); have X1 := hide ((unhide X0).go k9 h9 l9); clear h9 l9 k9 T9 X0))
      go_end0
      exact ⟨rfl, (unhide X1).wr, (unhide X1).len, unhide K1⟩

end Go.Proofs.YthoablpjkgeekaaGreatDoor

namespace Go.Proofs.YthoablpjkgeekaaGreatDoor
open Go.RowKit

theorem words2 (g : Nat) (x : WS3) (s t : ByteArray) (w : World) (k : Nat) (hk : k = w.heap.size) (h : WrI w g x) (hs : s.size ≤ 100000000) (ht : t.size ≤ 100000000) :
    Calls Tryz.prog 54 #[.pointer (some ⟨g, 0, none⟩), .slice (some ⟨k, 0, none⟩) 2 2] (w.alloc (.cells #[.string s, .string t] 9)) (WrE g w (wW x [s, t])) := by
  subst hk
  refine words_new g x [s, t] w h (fun u hu => ?_) (by simp)
  simp only [List.mem_cons, List.not_mem_nil, or_false] at hu
  rcases hu with rfl | rfl <;> assumption
theorem words3 (g : Nat) (x : WS3) (s t u : ByteArray) (w : World) (k : Nat) (hk : k = w.heap.size) (h : WrI w g x) (hs : s.size ≤ 100000000) (ht : t.size ≤ 100000000) (hu : u.size ≤ 100000000) :
    Calls Tryz.prog 54 #[.pointer (some ⟨g, 0, none⟩), .slice (some ⟨k, 0, none⟩) 3 3] (w.alloc (.cells #[.string s, .string t, .string u] 9)) (WrE g w (wW x [s, t, u])) := by
  subst hk
  refine words_new g x [s, t, u] w h (fun z hz => ?_) (by simp)
  simp only [List.mem_cons, List.not_mem_nil, or_false] at hz
  rcases hz with rfl | rfl | rfl <;> assumption

set_option maxHeartbeats 2000000 in
theorem statement_w (g : Nat) (E : PN → Int → WrP) (B O : PN → WrP) (hE : ExW g E) (hB : BkW g 56 B) (hO : BkW g 132 O) : BkW g 82 (wSt E B O) := by
  intro p x y v w hy I hN
  obtain ⟨pk, po, ps, pn, pl⟩ := p
  rw [RepN] at hN
  obtain ⟨a, cap, rfl, hcap, hL⟩ := hN
  have hg := I.wr.lt
  have HE := hide hE
  have HB := hide hB
  have HO := hide hO
  have HL := hide hL
  have HCap := hide hcap
  unfold wSt wEnt at hy
  obtain ⟨⟨l, b⟩, n⟩ := x
  simp only at hy
  by_cases hbd : 0 ≤ n ∧ n ≤ 100000
  case neg => rw [if_neg hbd] at hy; cases hy
  rw [if_pos hbd] at hy
  have hW1 : Hd (WrK g w (w.alloc (nodW pk po ps pn a pl.length cap))) := WrK.ext (Ext.alloc _ _) hg
  have HNb : Hd (∀ W, WrK g (w.alloc (nodW pk po ps pn a pl.length cap)) W → _) := fun W k => nbox hg k
  have X0 : Hd (WrI (w.alloc (nodW pk po ps pn a pl.length cap)) g ((l, b), n)) := I.ext (Ext.alloc _ _)
  have HEn := hide (wenter_any g l n b _ (unhide X0).wr hbd.1 hbd.2)
  clear hE hB hO hL hcap hbd I
  cases hen : entN n b with
  | true =>
    rw [hen] at hy HEn
    simp only [Bool.not_true] at HEn
    rw [if_pos rfl] at hy
    injection hy with hy
    subst hy
    go_enter Tryz.func82, Tryz.ntmps82
    go_wp2_with (go_at_call 68; refine Calls.mono (unhide HEn) ?_; rintro e w2 ⟨rfl, h9, k9⟩; have W2 := hide h9; have K2 := hide ((unhide hW1).trans k9); clear h9 k9)
    go_end0
    exact ⟨rfl, unhide W2, (unhide X0).len, unhide K2⟩
  | false =>
    rw [hen] at hy HEn
    simp only [Bool.not_false] at HEn
    rw [if_neg (by decide)] at hy
    have ENT : Hd (Calls Tryz.prog 68 #[.pointer (some ⟨g, 0, none⟩)] (w.alloc (nodW pk po ps pn a pl.length cap)) fun e w2 => e = .returned (.bool true) ∧ WrI w2 g ((l, false), n + 1) ∧ WrK g (w.alloc (nodW pk po ps pn a pl.length cap)) w2) := by
      refine Calls.mono (unhide HEn) ?_
      rintro e w2 ⟨rfl, h9, k9⟩
      exact ⟨rfl, (unhide X0).go (y := ((l, false), n + 1)) k9 h9 (unhide X0).len, k9⟩
    clear HEn hen X0
    by_cases hps : 100000000 < ps.size
    · rw [if_pos hps] at hy; cases hy
    rw [if_neg hps] at hy
    have HPS : Hd (ps.size ≤ 100000000) := Nat.le_of_not_lt hps
    clear hps
    by_cases h1 : pk = 1
    · rw [if_pos h1] at hy
      subst h1
      have HY := hide hy
      clear hy
      go_enter Tryz.func82, Tryz.ntmps82
      go_wp2_with (first
        | (go_at_call 68; refine Calls.mono (unhide ENT) ?_; rintro e w2 ⟨rfl, i9, k9⟩; have X2 := hide i9; have K2 := hide ((unhide hW1).trans k9); have K2b := hide k9; obtain ⟨n0, n1, n2, n3, n4⟩ := unhide HNb _ k9; clear i9 k9)
        | (have T9 := unhide X2; go_at_call 54; refine Calls.mono (words3 g _ ⟨#[108, 101, 116]⟩ ps ⟨#[61]⟩ _ _ (by first | rfl | simp) T9 (by decide) (unhide HPS) (by decide)) ?_; rintro e w3 ⟨rfl, h9, l9, k9⟩; have K3 := hide ((unhide K2).trans k9); have X3 := hide ((unhide X2).go k9 h9 l9); obtain ⟨n0, n1, n2, n3, n4⟩ := unhide HNb _ ((unhide K2b).trans k9); have K3b := hide ((unhide K2b).trans k9); clear h9 l9 k9 T9 X2)
        | (have T9 := unhide X3; go_at_call 107; refine Calls.mono (end_w g E pl a cap _ _ _ T9 ((unhide HL).wrk (unhide K3)) (unhide HE) (unhide HY)) ?_; rintro e w4 ⟨rfl, h9, l9, k9⟩; have K4 := hide ((unhide K3).trans k9); have X4 := hide ((unhide X3).go k9 h9 l9); obtain ⟨n0, n1, n2, n3, n4⟩ := unhide HNb _ ((unhide K3b).trans k9); have K4b := hide ((unhide K3b).trans k9); clear h9 l9 k9 T9 X3))
      go_end0
      exact ⟨rfl, (unhide X4).wr, (unhide X4).len, unhide K4⟩
    rw [if_neg h1] at hy
    by_cases h2 : pk = 2
    · rw [if_pos h2] at hy
      subst h2
      have HY := hide hy
      clear hy
      go_enter Tryz.func82, Tryz.ntmps82
      go_wp2_with (first
        | (go_at_call 68; refine Calls.mono (unhide ENT) ?_; rintro e w2 ⟨rfl, i9, k9⟩; have X2 := hide i9; have K2 := hide ((unhide hW1).trans k9); have K2b := hide k9; obtain ⟨n0, n1, n2, n3, n4⟩ := unhide HNb _ k9; clear i9 k9)
        | (have T9 := unhide X2; go_at_call 54; refine Calls.mono (words2 g _ ps ⟨#[61]⟩ _ _ (by first | rfl | simp) T9 (unhide HPS) (by decide)) ?_; rintro e w3 ⟨rfl, h9, l9, k9⟩; have K3 := hide ((unhide K2).trans k9); have X3 := hide ((unhide X2).go k9 h9 l9); obtain ⟨n0, n1, n2, n3, n4⟩ := unhide HNb _ ((unhide K2b).trans k9); have K3b := hide ((unhide K2b).trans k9); clear h9 l9 k9 T9 X2)
        | (have T9 := unhide X3; go_at_call 107; refine Calls.mono (end_w g E pl a cap _ _ _ T9 ((unhide HL).wrk (unhide K3)) (unhide HE) (unhide HY)) ?_; rintro e w4 ⟨rfl, h9, l9, k9⟩; have K4 := hide ((unhide K3).trans k9); have X4 := hide ((unhide X3).go k9 h9 l9); obtain ⟨n0, n1, n2, n3, n4⟩ := unhide HNb _ ((unhide K3b).trans k9); have K4b := hide ((unhide K3b).trans k9); clear h9 l9 k9 T9 X3))
      go_end0
      exact ⟨rfl, (unhide X4).wr, (unhide X4).len, unhide K4⟩
    rw [if_neg h2] at hy
    by_cases h3 : pk = 3
    · rw [if_pos h3] at hy
      subst h3
      have HY := hide hy
      clear hy
      go_enter Tryz.func82, Tryz.ntmps82
      go_wp2_with (first
        | (go_at_call 68; refine Calls.mono (unhide ENT) ?_; rintro e w2 ⟨rfl, i9, k9⟩; have X2 := hide i9; have K2 := hide ((unhide hW1).trans k9); have K2b := hide k9; obtain ⟨n0, n1, n2, n3, n4⟩ := unhide HNb _ k9; clear i9 k9)
        | (have T9 := unhide X2; go_at_call 108; refine Calls.mono (choice_w g E B O pl a cap _ _ _ T9 ((unhide HL).wrk (unhide K2)) (unhide HE) (unhide HB) (unhide HO) (unhide HCap) (unhide HY)) ?_; rintro e w3 ⟨rfl, h9, l9, k9⟩; have K3 := hide ((unhide K2).trans k9); have X3 := hide ((unhide X2).go k9 h9 l9); obtain ⟨n0, n1, n2, n3, n4⟩ := unhide HNb _ ((unhide K2b).trans k9); have K3b := hide ((unhide K2b).trans k9); clear h9 l9 k9 T9 X2))
      go_end0
      exact ⟨rfl, (unhide X3).wr, (unhide X3).len, unhide K3⟩
    rw [if_neg h3] at hy
    by_cases h4 : pk = 4
    · rw [if_pos h4] at hy
      subst h4
      have HY := hide hy
      clear hy
      go_enter Tryz.func82, Tryz.ntmps82
      go_wp2_with (first
        | (go_at_call 68; refine Calls.mono (unhide ENT) ?_; rintro e w2 ⟨rfl, i9, k9⟩; have X2 := hide i9; have K2 := hide ((unhide hW1).trans k9); have K2b := hide k9; obtain ⟨n0, n1, n2, n3, n4⟩ := unhide HNb _ k9; clear i9 k9)
        | (have T9 := unhide X2; go_at_call 109; refine Calls.mono (guarded_w g E B ⟨#[119, 104, 105, 108, 101]⟩ (by decide) pl a cap _ _ _ T9 ((unhide HL).wrk (unhide K2)) (unhide HE) (unhide HB) (unhide HY)) ?_; rintro e w3 ⟨rfl, h9, l9, k9⟩; have K3 := hide ((unhide K2).trans k9); have X3 := hide ((unhide X2).go k9 h9 l9); obtain ⟨n0, n1, n2, n3, n4⟩ := unhide HNb _ ((unhide K2b).trans k9); have K3b := hide ((unhide K2b).trans k9); clear h9 l9 k9 T9 X2))
      go_end0
      exact ⟨rfl, (unhide X3).wr, (unhide X3).len, unhide K3⟩
    rw [if_neg h4] at hy
    by_cases h5 : pk = 5
    · rw [if_pos h5] at hy
      subst h5
      injection hy with hy
      subst hy
      go_enter Tryz.func82, Tryz.ntmps82
      go_wp2_with (first
        | (go_at_call 68; refine Calls.mono (unhide ENT) ?_; rintro e w2 ⟨rfl, i9, k9⟩; have X2 := hide i9; have K2 := hide ((unhide hW1).trans k9); have K2b := hide k9; obtain ⟨n0, n1, n2, n3, n4⟩ := unhide HNb _ k9; clear i9 k9)
        | (have T9 := unhide X2; go_at_call 54; refine Calls.mono (words2 g _ ⟨#[98, 114, 101, 97, 107]⟩ ⟨#[59]⟩ _ _ (by first | rfl | simp) T9 (by decide) (by decide)) ?_; rintro e w3 ⟨rfl, h9, l9, k9⟩; have K3 := hide ((unhide K2).trans k9); have X3 := hide ((unhide X2).go k9 h9 l9); obtain ⟨n0, n1, n2, n3, n4⟩ := unhide HNb _ ((unhide K2b).trans k9); have K3b := hide ((unhide K2b).trans k9); clear h9 l9 k9 T9 X2))
      go_end0
      exact ⟨rfl, (unhide X3).wr, (unhide X3).len, unhide K3⟩
    rw [if_neg h5] at hy
    by_cases h6 : pk = 6
    · rw [if_pos h6] at hy
      subst h6
      injection hy with hy
      subst hy
      go_enter Tryz.func82, Tryz.ntmps82
      go_wp2_with (first
        | (go_at_call 68; refine Calls.mono (unhide ENT) ?_; rintro e w2 ⟨rfl, i9, k9⟩; have X2 := hide i9; have K2 := hide ((unhide hW1).trans k9); have K2b := hide k9; obtain ⟨n0, n1, n2, n3, n4⟩ := unhide HNb _ k9; clear i9 k9)
        | (have T9 := unhide X2; go_at_call 54; refine Calls.mono (words2 g _ ⟨#[99, 111, 110, 116, 105, 110, 117, 101]⟩ ⟨#[59]⟩ _ _ (by first | rfl | simp) T9 (by decide) (by decide)) ?_; rintro e w3 ⟨rfl, h9, l9, k9⟩; have K3 := hide ((unhide K2).trans k9); have X3 := hide ((unhide X2).go k9 h9 l9); obtain ⟨n0, n1, n2, n3, n4⟩ := unhide HNb _ ((unhide K2b).trans k9); have K3b := hide ((unhide K2b).trans k9); clear h9 l9 k9 T9 X2))
      go_end0
      exact ⟨rfl, (unhide X3).wr, (unhide X3).len, unhide K3⟩
    rw [if_neg h6] at hy
    by_cases h7 : pk = 7
    · rw [if_pos h7] at hy
      subst h7
      have HY := hide hy
      clear hy
      go_enter Tryz.func82, Tryz.ntmps82
      go_wp2_with (first
        | (go_at_call 68; refine Calls.mono (unhide ENT) ?_; rintro e w2 ⟨rfl, i9, k9⟩; have X2 := hide i9; have K2 := hide ((unhide hW1).trans k9); have K2b := hide k9; obtain ⟨n0, n1, n2, n3, n4⟩ := unhide HNb _ k9; clear i9 k9)
        | (have T9 := unhide X2; go_at_call 110; refine Calls.mono (answer_w g E pl a cap _ _ _ T9 ((unhide HL).wrk (unhide K2)) (unhide HE) (unhide HY)) ?_; rintro e w3 ⟨rfl, h9, l9, k9⟩; have K3 := hide ((unhide K2).trans k9); have X3 := hide ((unhide X2).go k9 h9 l9); obtain ⟨n0, n1, n2, n3, n4⟩ := unhide HNb _ ((unhide K2b).trans k9); have K3b := hide ((unhide K2b).trans k9); clear h9 l9 k9 T9 X2))
      go_end0
      exact ⟨rfl, (unhide X3).wr, (unhide X3).len, unhide K3⟩
    rw [if_neg h7] at hy
    by_cases h8 : pk = 8
    · rw [if_pos h8] at hy
      subst h8
      have HY := hide hy
      clear hy
      go_enter Tryz.func82, Tryz.ntmps82
      go_wp2_with (first
        | (go_at_call 68; refine Calls.mono (unhide ENT) ?_; rintro e w2 ⟨rfl, i9, k9⟩; have X2 := hide i9; have K2 := hide ((unhide hW1).trans k9); have K2b := hide k9; obtain ⟨n0, n1, n2, n3, n4⟩ := unhide HNb _ k9; clear i9 k9)
        | (have T9 := unhide X2; go_at_call 54; refine Calls.mono (words1 g _ ⟨#[112, 114, 105, 110, 116]⟩ _ _ (by first | rfl | simp) T9 (by decide)) ?_; rintro e w3 ⟨rfl, h9, l9, k9⟩; have K3 := hide ((unhide K2).trans k9); have X3 := hide ((unhide X2).go k9 h9 l9); obtain ⟨n0, n1, n2, n3, n4⟩ := unhide HNb _ ((unhide K2b).trans k9); have K3b := hide ((unhide K2b).trans k9); clear h9 l9 k9 T9 X2)
        | (have T9 := unhide X3; go_at_call 107; refine Calls.mono (end_w g E pl a cap _ _ _ T9 ((unhide HL).wrk (unhide K3)) (unhide HE) (unhide HY)) ?_; rintro e w4 ⟨rfl, h9, l9, k9⟩; have K4 := hide ((unhide K3).trans k9); have X4 := hide ((unhide X3).go k9 h9 l9); obtain ⟨n0, n1, n2, n3, n4⟩ := unhide HNb _ ((unhide K3b).trans k9); have K4b := hide ((unhide K3b).trans k9); clear h9 l9 k9 T9 X3))
      go_end0
      exact ⟨rfl, (unhide X4).wr, (unhide X4).len, unhide K4⟩
    rw [if_neg h8] at hy
    by_cases h9 : pk = 9
    · rw [if_pos h9] at hy
      subst h9
      have HY := hide hy
      clear hy
      go_enter Tryz.func82, Tryz.ntmps82
      go_wp2_with (first
        | (go_at_call 68; refine Calls.mono (unhide ENT) ?_; rintro e w2 ⟨rfl, i9, k9⟩; have X2 := hide i9; have K2 := hide ((unhide hW1).trans k9); have K2b := hide k9; obtain ⟨n0, n1, n2, n3, n4⟩ := unhide HNb _ k9; clear i9 k9)
        | (have T9 := unhide X2; go_at_call 107; refine Calls.mono (end_w g E pl a cap _ _ _ T9 ((unhide HL).wrk (unhide K2)) (unhide HE) (unhide HY)) ?_; rintro e w3 ⟨rfl, h9, l9, k9⟩; have K3 := hide ((unhide K2).trans k9); have X3 := hide ((unhide X2).go k9 h9 l9); obtain ⟨n0, n1, n2, n3, n4⟩ := unhide HNb _ ((unhide K2b).trans k9); have K3b := hide ((unhide K2b).trans k9); clear h9 l9 k9 T9 X2))
      go_end0
      exact ⟨rfl, (unhide X3).wr, (unhide X3).len, unhide K3⟩
    rw [if_neg h9] at hy
    injection hy with hy
    subst hy
    go_enter Tryz.func82, Tryz.ntmps82
    go_wp2_with (first
      | (go_at_call 68; refine Calls.mono (unhide ENT) ?_; rintro e w2 ⟨rfl, i9, k9⟩; have X2 := hide i9; have K2 := hide ((unhide hW1).trans k9); have K2b := hide k9; obtain ⟨n0, n1, n2, n3, n4⟩ := unhide HNb _ k9; clear i9 k9)
      | (have T9 := unhide X2; go_at_call 73; refine Calls.mono (wfail_w g _ _ T9) ?_; rintro e w3 ⟨rfl, h9, l9, k9⟩; have K3 := hide ((unhide K2).trans k9); have X3 := hide ((unhide X2).go k9 h9 l9); obtain ⟨n0, n1, n2, n3, n4⟩ := unhide HNb _ ((unhide K2b).trans k9); have K3b := hide ((unhide K2b).trans k9); clear h9 l9 k9 T9 X2))
    go_end0
    exact ⟨rfl, (unhide X3).wr, (unhide X3).len, unhide K3⟩

end Go.Proofs.YthoablpjkgeekaaGreatDoor

namespace Go.Proofs.YthoablpjkgeekaaGreatDoor
open Go.RowKit

theorem Wr.wrong {w : World} {g : Nat} {l : List UInt8} {n : Int} {b : Bool} (h : Wr w g l n b) : w.cell? ⟨g, 2, none⟩ = some (.bool b) := by
  obtain ⟨v, h1, _⟩ := h.ex
  exact rowC h1 2 rfl

set_option maxHeartbeats 2000000 in
theorem block_w (g : Nat) (S : PN → WrP) (hS : BkW g 82 S) : BkW g 56 (wB S) := by
  intro p x y v w hy I hN
  obtain ⟨pk, po, ps, pn, pl⟩ := p
  rw [RepN] at hN
  obtain ⟨a, cap, rfl, hcap, hL⟩ := hN
  have hg := I.wr.lt
  have HS := hide hS
  have HL := hide hL
  unfold wB at hy
  simp only at hy
  have hW1 : Hd (WrK g w (w.alloc (nodW pk po ps pn a pl.length cap))) := WrK.ext (Ext.alloc _ _) hg
  have HNb : Hd (∀ W, WrK g (w.alloc (nodW pk po ps pn a pl.length cap)) W → _) := fun W k => nbox hg k
  have X0 : Hd (WrI (w.alloc (nodW pk po ps pn a pl.length cap)) g x) := I.ext (Ext.alloc _ _)
  obtain ⟨n0, n1, n2, n3, n4⟩ := nbox hg (WrK.refl g (w.alloc (nodW pk po ps pn a pl.length cap)))
  clear hS hL hcap I
  by_cases h10 : pk = 10
  case neg =>
    rw [if_neg h10] at hy
    injection hy with hy
    subst hy
    go_enter Tryz.func56, Tryz.ntmps56
    go_wp2_with (have T9 := unhide X0; go_at_call 73; refine Calls.mono (wfail_w g x _ T9) ?_; rintro e w4 ⟨rfl, h9, l9, k9⟩; have X4 := hide ((unhide X0).go k9 h9 l9); have K4 := hide ((unhide hW1).trans k9); clear h9 l9 k9 T9 X0)
    go_end0
    exact ⟨rfl, (unhide X4).wr, (unhide X4).len, unhide K4⟩
  rw [if_pos h10] at hy
  subst h10
  by_cases hbig : 1000000 < pl.length
  · rw [if_pos hbig] at hy; cases hy
  rw [if_neg hbig] at hy
  unfold wEnt at hy
  obtain ⟨⟨l, b⟩, n⟩ := x
  simp only at hy
  by_cases hbd : 0 ≤ n ∧ n ≤ 100000
  case neg => rw [if_neg hbd] at hy; cases hy
  rw [if_pos hbd] at hy
  have HEn := hide (wenter_any g l n b _ (unhide X0).wr hbd.1 hbd.2)
  clear hbd
  cases hen : entN n b with
  | true =>
    rw [hen] at hy HEn
    simp only [Bool.not_true] at HEn
    rw [if_pos rfl] at hy
    injection hy with hy
    subst hy
    go_enter Tryz.func56, Tryz.ntmps56
    go_wp2_with (go_at_call 68; refine Calls.mono (unhide HEn) ?_; rintro e w2 ⟨rfl, h9, k9⟩; have W2 := hide h9; have K2 := hide ((unhide hW1).trans k9); clear h9 k9)
    go_end0
    exact ⟨rfl, unhide W2, (unhide X0).len, unhide K2⟩
  | false =>
    rw [hen] at hy HEn
    simp only [Bool.not_false] at HEn
    rw [if_neg (by decide)] at hy
    have ENT : Hd (Calls Tryz.prog 68 #[.pointer (some ⟨g, 0, none⟩)] (w.alloc (nodW 10 po ps pn a pl.length cap)) fun e w2 => e = .returned (.bool true) ∧ WrI w2 g ((l, false), n + 1) ∧ WrK g (w.alloc (nodW 10 po ps pn a pl.length cap)) w2) := by
      refine Calls.mono (unhide HEn) ?_
      rintro e w2 ⟨rfl, h9, k9⟩
      exact ⟨rfl, (unhide X0).go (y := ((l, false), n + 1)) k9 h9 (unhide X0).len, k9⟩
    clear HEn hen X0
    obtain ⟨R, hR, hRy⟩ : ∃ R, wBL S pl (wW ((l, false), n + 1) [⟨#[123]⟩]) = some R ∧ y = wW R [⟨#[125]⟩] := by
      unfold wThen at hy
      split at hy
      · cases hy
      · rename_i z hz
        exact ⟨z, hz, (Option.some.inj hy).symm⟩
    subst hRy
    clear hy
    have HR : Hd (wBL S (pl.drop 0) (wW ((l, false), n + 1) [⟨#[123]⟩]) = some R) := hR
    clear hR
    generalize hM : pl.length = m at *
    go_enter Tryz.func56, Tryz.ntmps56
    go_wp2_with (first
      | (go_at_call 68; refine Calls.mono (unhide ENT) ?_; rintro e w2 ⟨rfl, i9, k9⟩; have X2 := hide i9; have K2 := hide k9; obtain ⟨n0, n1, n2, n3, n4⟩ := unhide HNb _ k9; clear i9 k9)
      | (have T9 := unhide X2; go_at_call 54; refine Calls.mono (words1 g _ ⟨#[123]⟩ _ _ (by first | rfl | simp) T9 (by decide)) ?_; rintro e w3 ⟨rfl, h9, l9, k9⟩; have K3 := hide ((unhide K2).trans k9); have X3 := hide ((unhide X2).go k9 h9 l9); clear h9 l9 k9 T9 X2))
    go_loopw [4] (fun t wr => ∃ (j : Nat) (z : WS3), t = .int .i64 j ∧ j ≤ m ∧ Hd (wBL S (pl.drop j) z = some R) ∧ Hd (WrI wr g z) ∧ Hd (WrK g (w.alloc (nodW 10 po ps pn a m cap)) wr)) (fun t _ => m - (intOf t).toNat)
    case atStart => exact ⟨0, _, rfl, by omega, HR, X3, K3⟩
    case round =>
      clear HR X3 K3 K2
      obtain ⟨j, z, rfl, hj, hE, hI, hF⟩ := hrel
      obtain ⟨n0, n1, n2, n3, n4⟩ := unhide HNb _ (unhide hF)
      have hw := (unhide hI).wr.wrong
      obtain ⟨⟨zl, zb⟩, zn⟩ := z
      simp only at hw
      by_cases hlt : j < m
      · obtain ⟨q, hs⟩ : ∃ q, pl[j]? = some q := ⟨_, List.getElem?_eq_getElem (by omega)⟩
        have hd : pl.drop j = q :: pl.drop (j + 1) := by
          obtain ⟨h1, h2⟩ := List.getElem?_eq_some_iff.1 hs
          rw [List.drop_eq_getElem_cons h1, h2]
        have hE2 := unhide hE
        rw [hd, wBL] at hE2
        simp only at hE2
        cases zb with
        | true =>
          rw [if_pos rfl] at hE2
          injection hE2 with hE2
          subst hE2
          clear hd hs hE
          go_wp2_with (have T9 := unhide hI; go_at_call 54; refine Calls.mono (words1 g _ ⟨#[125]⟩ _ _ (by first | rfl | simp) T9 (by decide)) ?_; rintro e w3 ⟨rfl, h9, l9, k9⟩; have K3 := hide (((unhide hW1).trans (unhide hF)).trans k9); have X3 := hide ((unhide hI).go k9 h9 l9); clear h9 l9 k9 T9 hI)
          go_end0
          exact ⟨rfl, (unhide X3).wr, (unhide X3).len, unhide K3⟩
        | false =>
          rw [if_neg (by decide)] at hE2
          obtain ⟨u, hu, hE3⟩ : ∃ u, S q ((zl, false), zn) = some u ∧ wBL S (pl.drop (j + 1)) u = some R := by
            split at hE2
            · cases hE2
            · rename_i u hu
              exact ⟨u, hu, hE2⟩
          have HE3 := hide hE3
          have HU := hide hu
          obtain ⟨bb, off, c0, c1, c2, c3, c4, ha, hb, hr, e0, e1, e2, e3, e4⟩ := repNL_at ((unhide HL).wrk ((unhide hW1).trans (unhide hF))) j q hs
          have HT := hide hr
          subst ha
          clear hE2 hd hs hE hE3 hu hr
          go_wp2_with (have T9 := unhide hI; go_at_call 82; refine Calls.mono (unhide HS _ _ _ _ _ (unhide HU) T9 (unhide HT)) ?_; rintro e w4 ⟨rfl, h9, l9, k9⟩; have K4 := hide ((unhide hF).trans k9); have X4 := hide ((unhide hI).go k9 h9 l9); clear h9 l9 k9 T9 hI)
          go_roundw
          case rel => exact ⟨j + 1, u, by go_num, by omega, HE3, X4, K4⟩
          case measure => simp [intOf]; omega
      · obtain rfl : j = m := by omega
        have HQR : ((zl, zb), zn) = R := by
          have := unhide hE
          rw [List.drop_eq_nil_of_le (by omega)] at this
          exact Option.some.inj this
        subst HQR
        clear hE
        go_wp2_with (have T9 := unhide hI; go_at_call 54; refine Calls.mono (words1 g _ ⟨#[125]⟩ _ _ (by first | rfl | simp) T9 (by decide)) ?_; rintro e w3 ⟨rfl, h9, l9, k9⟩; have K3 := hide (((unhide hW1).trans (unhide hF)).trans k9); have X3 := hide ((unhide hI).go k9 h9 l9); clear h9 l9 k9 T9 hI)
        go_end0
        exact ⟨rfl, (unhide X3).wr, (unhide X3).len, unhide K3⟩

/-- A statement of any tree, a block of any tree (fuel above its depth; where the plain function tells). -/
theorem stmt_all (g : Nat) (E : PN → Int → WrP) (hE : ExW g E) : ∀ f, BkW g 82 (wS E f) := by
  intro f
  induction f with
  | zero => intro p x y v W h; rw [wS] at h; cases h
  | succ f ih =>
    intro p x y v W h
    rw [wS] at h
    exact statement_w g E (wB (wS E f)) (wOth (wS E f) (wB (wS E f))) hE (block_w g _ ih) (other_w g _ _ ih (block_w g _ ih)) p x y v W h
theorem block_all (g : Nat) (E : PN → Int → WrP) (hE : ExW g E) (f : Nat) : BkW g 56 (wBk E f) := block_w g _ (stmt_all g E hE f)

end Go.Proofs.YthoablpjkgeekaaGreatDoor

namespace Go.Proofs.YthoablpjkgeekaaGreatDoor
open Go.RowKit

def wCom (i : Nat) (x : WS3) : WS3 := if 0 < i then wW x [⟨#[44]⟩] else x
theorem comma_w (g i : Nat) (x : WS3) (w : World) (I : WrI w g x) : Calls Tryz.prog 81 #[.pointer (some ⟨g, 0, none⟩), .int .i64 i] w (WrE g w (wCom i x)) := by
  have X0 := hide I
  clear I
  unfold wCom
  by_cases h : 0 < i
  · rw [if_pos h]
    go_enter Tryz.func81, Tryz.ntmps81
    go_wp2_with (have T9 := unhide X0; go_at_call 54; refine Calls.mono (words1 g _ ⟨#[44]⟩ _ _ (by first | rfl | simp) T9 (by decide)) ?_; rintro e w1 ⟨rfl, h9, l9, k9⟩; have K1 := hide k9; have X1 := hide ((unhide X0).go k9 h9 l9); clear h9 l9 k9 T9 X0)
    go_end0
    exact ⟨rfl, (unhide X1).wr, (unhide X1).len, unhide K1⟩
  · rw [if_neg h]
    obtain rfl : i = 0 := by omega
    go_enter Tryz.func81, Tryz.ntmps81
    go_wp2_with fail
    go_end0
    exact ⟨rfl, (unhide X0).wr, (unhide X0).len, WrK.refl _ _⟩

set_option maxHeartbeats 2000000 in
theorem params_w (g : Nat) (ps : List ByteArray) (a : Option Addr) (cap : Nat) (x : WS3) (w : World) (I : WrI w g x) (hP : RepS w (fun b => b < g) ps a) (hs : ∀ s ∈ ps, s.size ≤ 100000000) (hn : ps.length ≤ 1000000) :
    Calls Tryz.prog 55 #[.pointer (some ⟨g, 0, none⟩), .slice a ps.length cap] w (WrE g w (wPar ps x)) := by
  have HC := hide (fun (i : Nat) (x : WS3) (W : World) (I : WrI W g x) => comma_w g i x W I)
  have HS := hide hs
  have HP := hide hP
  have X0 := hide I
  clear hs hP I
  unfold wPar
  obtain ⟨R, hR⟩ : ∃ R, R = wPL 0 ps (wW x [⟨#[40]⟩]) := ⟨_, rfl⟩
  rw [← hR]
  have HR : Hd (wPL 0 (ps.drop 0) (wW x [⟨#[40]⟩]) = R) := hR.symm
  clear hR
  generalize hM : ps.length = m at *
  go_enter Tryz.func55, Tryz.ntmps55
  go_wp2_with (have T9 := unhide X0; go_at_call 54; refine Calls.mono (words1 g _ ⟨#[40]⟩ _ _ (by first | rfl | simp) T9 (by decide)) ?_; rintro e w3 ⟨rfl, h9, l9, k9⟩; have K3 := hide k9; have X3 := hide ((unhide X0).go k9 h9 l9); clear h9 l9 k9 T9 X0)
  go_loopw [4] (fun t wr => ∃ (j : Nat) (z : WS3), t = .int .i64 j ∧ j ≤ m ∧ Hd (wPL j (ps.drop j) z = R) ∧ Hd (WrI wr g z) ∧ Hd (WrK g w wr)) (fun t _ => m - (intOf t).toNat)
  case atStart => exact ⟨0, _, rfl, by omega, HR, X3, K3⟩
  case round =>
    clear HR X3 K3
    obtain ⟨j, z, rfl, hj, hE, hI, hF⟩ := hrel
    have hw := (unhide hI).wr.wrong
    obtain ⟨⟨zl, zb⟩, zn⟩ := z
    simp only at hw
    by_cases hlt : j < m
    · obtain ⟨q, hs⟩ : ∃ q, ps[j]? = some q := ⟨_, List.getElem?_eq_getElem (by omega)⟩
      have hd : ps.drop j = q :: ps.drop (j + 1) := by
        obtain ⟨h1, h2⟩ := List.getElem?_eq_some_iff.1 hs
        rw [List.drop_eq_getElem_cons h1, h2]
      have hE2 := unhide hE
      rw [hd, wPL] at hE2
      simp only at hE2
      cases zb with
      | true =>
        rw [if_pos rfl] at hE2
        subst hE2
        clear hd hs hE
        go_wp2_with (have T9 := unhide hI; go_at_call 54; refine Calls.mono (words1 g _ ⟨#[41]⟩ _ _ (by first | rfl | simp) T9 (by decide)) ?_; rintro e w3 ⟨rfl, h9, l9, k9⟩; have K3 := hide ((unhide hF).trans k9); have X3 := hide ((unhide hI).go k9 h9 l9); clear h9 l9 k9 T9 hI)
        go_end0
        exact ⟨rfl, (unhide X3).wr, (unhide X3).len, unhide K3⟩
      | false =>
        rw [if_neg (by decide)] at hE2
        have HE3 : Hd (wPL (j + 1) (ps.drop (j + 1)) (wW (wCom j ((zl, false), zn)) [q]) = R) := hE2
        have hq := hide (unhide HS q (List.mem_of_getElem? hs))
        rcases unhide HP with h0 | ⟨b, off, rfl, hb, hc⟩
        · rw [h0] at hs; simp at hs
        have hc0 := hc j (.string q) (by rw [List.getElem?_map, hs]; rfl)
        have HCell : Hd (∀ W, WrK g w W → W.cell? ⟨b, off + j, none⟩ = some (.string q)) := fun W k => (World.cell?_of_block (a := ⟨b, off + j, none⟩) (w := w) (k.low b hb)).trans hc0
        clear hE2 hd hs hE hc hc0 HP
        go_wp2_with (first
          | (have T9 := unhide hI; go_at_call 81; refine Calls.mono (unhide HC j _ _ T9) ?_; rintro e w4 ⟨rfl, h9, l9, k9⟩; have K4 := hide ((unhide hF).trans k9); have X4 := hide ((unhide hI).go k9 h9 l9); have c4 := unhide HCell _ (unhide K4); clear h9 l9 k9 T9 hI)
          | (have T9 := unhide X4; go_at_call 54; refine Calls.mono (words1 g _ q _ _ (by first | rfl | simp) T9 (unhide hq)) ?_; rintro e w5 ⟨rfl, h9, l9, k9⟩; have K5 := hide ((unhide K4).trans k9); have X5 := hide ((unhide X4).go k9 h9 l9); clear h9 l9 k9 T9 X4))
        go_roundw
        case rel => exact ⟨j + 1, _, by go_num, by omega, HE3, X5, K5⟩
        case measure => simp [intOf]; omega
    · obtain rfl : j = m := by omega
      have HQR : ((zl, zb), zn) = R := by
        have := unhide hE
        rw [List.drop_eq_nil_of_le (by omega), wPL] at this
        exact this
      subst HQR
      clear hE
      go_wp2_with (have T9 := unhide hI; go_at_call 54; refine Calls.mono (words1 g _ ⟨#[41]⟩ _ _ (by first | rfl | simp) T9 (by decide)) ?_; rintro e w3 ⟨rfl, h9, l9, k9⟩; have K3 := hide ((unhide hF).trans k9); have X3 := hide ((unhide hI).go k9 h9 l9); clear h9 l9 k9 T9 hI)
      go_end0
      exact ⟨rfl, (unhide X3).wr, (unhide X3).len, unhide K3⟩

end Go.Proofs.YthoablpjkgeekaaGreatDoor
