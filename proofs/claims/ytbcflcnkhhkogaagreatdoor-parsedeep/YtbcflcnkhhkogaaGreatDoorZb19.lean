/- The writer of parse: an expression. · Two trees that are the same. · Show at a tree whose text is read as it again. -/
import Derived.Test.YtbcflcnkhhkogaaGreatDoorZb18
set_option linter.unusedSimpArgs false
set_option linter.unusedVariables false
set_option maxRecDepth 10000

namespace Go.Proofs.YtbcflcnkhhkogaaGreatDoor
open Go.RowKit

theorem small_any (n : Nat) (hn : n < 10) (w : World) : Calls Tryz.prog 126 #[.int .i64 (n : Int)] w fun e w' => e = .returned (.string (dig1 n)) ∧ w' = w := by
  rcases (show n = 0 ∨ n = 1 ∨ n = 2 ∨ n = 3 ∨ n = 4 ∨ n = 5 ∨ n = 6 ∨ n = 7 ∨ n = 8 ∨ n = 9 by omega) with rfl | rfl | rfl | rfl | rfl | rfl | rfl | rfl | rfl | rfl
  all_goals
    go_enter Tryz.func126, Tryz.ntmps126
    go_wp2_with fail
    go_ret
    exact ⟨rfl, rfl⟩
theorem fmtI_any (n : Nat) (hn : n < 10) (w : World) : Calls Tryz.prog 100 #[.int .i64 (n : Int), .int .i64 10] w fun e w' => e = .returned (.string (dig1 n)) ∧ w' = w := by
  have HS := hide (small_any n hn w)
  go_enter Tryz.func100, Tryz.ntmps100
  go_wp2_with (go_at_call 126; refine Calls.mono (unhide HS) ?_; rintro e w1 ⟨rfl, hw⟩; obtain rfl := hw.symm)
  go_ret
  exact ⟨rfl, rfl⟩
theorem fmt_any (n : Nat) (hn : n < 10) (w : World) : Calls Tryz.prog 66 #[.int .i64 (n : Int), .int .i64 10] w fun e w' => e = .returned (.string (dig1 n)) ∧ w' = w := by
  have HS := hide (fmtI_any n hn w)
  go_enter Tryz.func66, Tryz.ntmps66
  go_wp2_with (go_at_call 100; refine Calls.mono (unhide HS) ?_; rintro e w1 ⟨rfl, hw⟩; obtain rfl := hw.symm)
  go_ret
  exact ⟨rfl, rfl⟩

set_option maxHeartbeats 1000000 in
theorem expr_w (g : Nat) : ∀ f, ExW g (wE f) := by
  intro f
  induction f with
  | zero => intro p least x y v W h; rw [wE] at h; cases h
  | succ f ih =>
    intro p least x y v w hy I hN
    obtain ⟨pk, po, ps, pn, pl⟩ := p
    have HTr := hide (fun (W : World) (k : WrK g w W) => hN.wrk k)
    rw [RepN] at hN
    obtain ⟨a, cap, rfl, hcap, hL⟩ := hN
    rw [wE] at hy
    have hg := I.wr.lt
    obtain ⟨⟨l, b⟩, n⟩ := x
    simp only at hy
    by_cases hbd : 0 ≤ n ∧ n ≤ 100000 ∧ ps.size ≤ 100000000
    case neg => rw [if_neg hbd] at hy; cases hy
    rw [if_pos hbd] at hy
    have hW1 : Hd (WrK g w (w.alloc (nodW pk po ps pn a pl.length cap))) := WrK.ext (Ext.alloc _ _) hg
    have HNb : Hd (∀ W, WrK g (w.alloc (nodW pk po ps pn a pl.length cap)) W → _) := fun W k => nbox hg k
    have X0 : Hd (WrI (w.alloc (nodW pk po ps pn a pl.length cap)) g ((l, b), n)) := I.ext (Ext.alloc _ _)
    have HEn := hide (wenter_any g l n b _ (unhide X0).wr hbd.1 hbd.2.1)
    have HOp := hide (fun (x y : WS3) (W : World) (v : Value) (I : WrI W g x) (hN : RepN W (fun b => b < g) ⟨pk, po, ps, pn, pl⟩ v) (hy : wO (wE f) ⟨pk, po, ps, pn, pl⟩ least x = some y) => operation_w g (wE f) ⟨pk, po, ps, pn, pl⟩ least x y v W I hN ih hy)
    have hps := hbd.2.2
    have HPS := hide hps
    clear ih hL hbd hps I
    cases hen : entN n b with
    | true =>
      rw [hen] at hy HEn
      simp only [Bool.not_true] at HEn
      rw [if_pos rfl] at hy
      injection hy with hy
      subst hy
      go_enter Tryz.func31, Tryz.ntmps31
      go_wp2_with (go_at_call 63; refine Calls.mono (unhide HEn) ?_; rintro e w2 ⟨rfl, h9, k9⟩; have W2 := hide h9; have K2 := hide ((unhide hW1).trans k9); clear h9 k9)
      go_end0
      exact ⟨rfl, unhide W2, (unhide X0).len, unhide K2⟩
    | false =>
      rw [hen] at hy HEn
      simp only [Bool.not_false] at HEn
      rw [if_neg (by decide)] at hy
      have ENT : Hd (Calls Tryz.prog 63 #[.pointer (some ⟨g, 0, none⟩)] (w.alloc (nodW pk po ps pn a pl.length cap)) fun e w2 => e = .returned (.bool true) ∧ WrI w2 g ((l, false), n + 1) ∧ WrK g (w.alloc (nodW pk po ps pn a pl.length cap)) w2) := by
        refine Calls.mono (unhide HEn) ?_
        rintro e w2 ⟨rfl, h9, k9⟩
        exact ⟨rfl, (unhide X0).go (y := ((l, false), n + 1)) k9 h9 (unhide X0).len, k9⟩
      clear HEn hen X0
      by_cases hop : pk = 11 ∨ pk = 12 ∨ pk = 13 ∨ pk = 14
      · rw [if_pos hop] at hy
        have HY := hide hy
        clear hy
        rcases hop with rfl | rfl | rfl | rfl
        all_goals
          go_enter Tryz.func31, Tryz.ntmps31
          go_wp2_with (first
            | (go_at_call 63; refine Calls.mono (unhide ENT) ?_; rintro e w2 ⟨rfl, i9, k9⟩; have X2 := hide i9; have K2 := hide k9; obtain ⟨n0, n1, n2, n3, n4⟩ := unhide HNb _ k9; clear i9 k9)
            | (have T9 := unhide X2; go_at_call 64; refine Calls.mono (unhide HOp _ _ _ _ T9 (unhide HTr _ ((unhide hW1).trans (unhide K2))) (unhide HY)) ?_; rintro e w3 ⟨rfl, h9, l9, k9⟩; have W3 := hide h9; have L3 := hide l9; have K3 := hide ((unhide K2).trans k9); clear h9 l9 k9 T9))
          go_end0
          exact ⟨rfl, unhide W3, unhide L3, (unhide hW1).trans (unhide K3)⟩
      · rw [if_neg hop] at hy
        by_cases h15 : pk = 15
        · rw [if_pos h15] at hy
          subst h15
          by_cases hpn : 0 ≤ pn ∧ pn < 10
          · rw [if_pos hpn] at hy
            injection hy with hy
            subst hy
            obtain ⟨m, rfl⟩ : ∃ m : Nat, pn = m := ⟨pn.toNat, by omega⟩
            have HFm := hide (fun W => fmt_any m (by omega) W)
            clear hop
            go_enter Tryz.func31, Tryz.ntmps31
            go_wp2_with (first
              | (go_at_call 63; refine Calls.mono (unhide ENT) ?_; rintro e w2 ⟨rfl, i9, k9⟩; have X2 := hide i9; have K2 := hide k9; obtain ⟨n0, n1, n2, n3, n4⟩ := unhide HNb _ k9; clear i9 k9)
              | (go_at_call 66; refine Calls.mono (unhide HFm _) ?_; rintro e w3 ⟨rfl, hw⟩; obtain rfl := hw.symm)
              | (have T9 := unhide X2; go_at_call 65; refine Calls.mono (words1 g _ (dig1 m) _ _ (by first | rfl | simp) T9 (by simp [dig1, ByteArray.size])) ?_; rintro e w4 ⟨rfl, h9, l9, k9⟩; have W3 := hide h9; have L3 := hide l9; have K3 := hide ((unhide K2).trans k9); clear h9 l9 k9 T9))
            go_end0
            exact ⟨rfl, unhide W3, unhide L3, (unhide hW1).trans (unhide K3)⟩
          · rw [if_neg hpn] at hy; cases hy
        · rw [if_neg h15] at hy
          by_cases h18 : pk = 18
          · rw [if_pos h18] at hy
            subst h18
            injection hy with hy
            subst hy
            clear hop h15
            go_enter Tryz.func31, Tryz.ntmps31
            go_wp2_with (first
              | (go_at_call 63; refine Calls.mono (unhide ENT) ?_; rintro e w2 ⟨rfl, i9, k9⟩; have X2 := hide i9; have K2 := hide k9; obtain ⟨n0, n1, n2, n3, n4⟩ := unhide HNb _ k9; clear i9 k9)
              | (have T9 := unhide X2; go_at_call 65; refine Calls.mono (words1 g _ ⟨#[110, 105, 108]⟩ _ _ (by first | rfl | simp) T9 (by decide)) ?_; rintro e w4 ⟨rfl, h9, l9, k9⟩; have W3 := hide h9; have L3 := hide l9; have K3 := hide ((unhide K2).trans k9); clear h9 l9 k9 T9))
            go_end0
            exact ⟨rfl, unhide W3, unhide L3, (unhide hW1).trans (unhide K3)⟩
          · rw [if_neg h18] at hy
            by_cases h19 : pk = 19
            · rw [if_pos h19] at hy
              subst h19
              injection hy with hy
              subst hy
              clear hop h15 h18
              go_enter Tryz.func31, Tryz.ntmps31
              go_wp2_with (first
                | (go_at_call 63; refine Calls.mono (unhide ENT) ?_; rintro e w2 ⟨rfl, i9, k9⟩; have X2 := hide i9; have K2 := hide k9; obtain ⟨n0, n1, n2, n3, n4⟩ := unhide HNb _ k9; clear i9 k9)
                | (have T9 := unhide X2; go_at_call 65; refine Calls.mono (words1 g _ ps _ _ (by first | rfl | simp) T9 (unhide HPS)) ?_; rintro e w4 ⟨rfl, h9, l9, k9⟩; have W3 := hide h9; have L3 := hide l9; have K3 := hide ((unhide K2).trans k9); clear h9 l9 k9 T9))
              go_end0
              exact ⟨rfl, unhide W3, unhide L3, (unhide hW1).trans (unhide K3)⟩
            · rw [if_neg h19] at hy; cases hy

end Go.Proofs.YtbcflcnkhhkogaaGreatDoor

namespace Go.Proofs.YtbcflcnkhhkogaaGreatDoor
open Go.RowKit

theorem PN.byList {M : PN → Prop} (h : ∀ k o s n l, (∀ x ∈ l, M x) → M (.mk k o s n l)) : ∀ p, M p := by
  have go : ∀ (m : Nat) (p : PN), SizeOf.sizeOf p ≤ m → M p := by
    intro m
    induction m with
    | zero =>
      intro p hp
      cases p with
      | mk k o s n l => simp at hp
    | succ m ih =>
      intro p hp
      cases p with
      | mk k o s n l =>
        refine h k o s n l fun x hx => ih x ?_
        have := List.sizeOf_lt_of_mem hx
        simp at hp
        omega
  exact fun p => go _ p (Nat.le_refl _)

def InW (w : World) : Nat → Prop := fun b => b < w.heap.size
theorem RepN.inw {w w' : World} {p : PN} {v : Value} (h : RepN w (InW w) p v) (k : Ext w w') : RepN w' (InW w') p v := RepN.to (fun b hb => ⟨Nat.lt_of_lt_of_le hb k.size, k.block b hb⟩) p v h
theorem RepNL.inw {w w' : World} {l : List PN} {a : Option Addr} (h : RepNL w (InW w) l a) (k : Ext w w') : RepNL w' (InW w') l a := RepNL.to (fun b hb => ⟨Nat.lt_of_lt_of_le hb k.size, k.block b hb⟩) l a h

/-- A tree is found the same as itself, wherever the two lie. -/
def SameOf (p : PN) : Prop := ∀ (va vb : Value) (w : World), RepN w (InW w) p va → RepN w (InW w) p vb → Calls Tryz.prog 33 #[va, vb] w fun e w' => e = .returned (.bool true) ∧ Ext w w'

set_option maxHeartbeats 1000000 in
theorem eqf_w (l : List PN) (hl : ∀ p ∈ l, SameOf p) (a b : Option Addr) (ca cb : Nat) (w : World) (h1 : RepNL w (InW w) l a) (h2 : RepNL w (InW w) l b) (hn : l.length ≤ 100000000) :
    Calls Tryz.prog 70 #[.slice a l.length ca, .slice b l.length cb, .func (.func 33) #[] #[]] w fun e w' => e = .returned (.bool true) ∧ Ext w w' := by
  have HA := hide h1
  have HB := hide h2
  have HS := hide hl
  clear h1 h2 hl
  generalize hN : l.length = n at *
  go_enter Tryz.func70, Tryz.ntmps70
  go_wp2_with fail
  go_loopw [17] (fun t wr => ∃ (j : Nat), t = .int .i64 j ∧ j ≤ n ∧ Hd (Ext w wr)) (fun t _ => n - (intOf t).toNat)
  case atStart => exact ⟨0, rfl, by omega, Ext.refl w⟩
  case round =>
    obtain ⟨j, rfl, hj, hX⟩ := hrel
    by_cases hlt : j < n
    · obtain ⟨p, hp⟩ : ∃ p, l[j]? = some p := ⟨_, List.getElem?_eq_getElem (by omega)⟩
      obtain ⟨b1, o1, c0, c1, c2, c3, c4, rfl, f1, r1, e0, e1, e2, e3, e4⟩ := repNL_at ((unhide HA).inw (unhide hX)) j p hp
      obtain ⟨b2, o2, d0, d1, d2, d3, d4, rfl, f2, r2, g0, g1, g2, g3, g4⟩ := repNL_at ((unhide HB).inw (unhide hX)) j p hp
      obtain ⟨pk, po, ps, pn, pl⟩ := p
      have r1' := r1
      have r2' := r2
      rw [RepN] at r1' r2'
      obtain ⟨a1, cap1, hv1, _, _⟩ := r1'
      obtain ⟨a2, cap2, hv2, _, _⟩ := r2'
      injection hv1 with hv1
      injection hv2 with hv2
      simp at hv1 hv2
      obtain ⟨rfl, rfl, rfl, rfl, rfl⟩ := hv1
      obtain ⟨rfl, rfl, rfl, rfl, rfl⟩ := hv2
      have HP := hide (fun (W : World) (k : Ext wr W) => unhide HS ⟨pk, po, ps, pn, pl⟩ (List.mem_of_getElem? hp) _ _ W (r1.inw k) (r2.inw k))
      have E0 := fun ob => (Ext.alloc wr ob).cell e0
      have E1 := fun ob => (Ext.alloc wr ob).cell e1
      have E2 := fun ob => (Ext.alloc wr ob).cell e2
      have E3 := fun ob => (Ext.alloc wr ob).cell e3
      have E4 := fun ob => (Ext.alloc wr ob).cell e4
      have G0 := fun ob => (Ext.alloc wr ob).cell g0
      have G1 := fun ob => (Ext.alloc wr ob).cell g1
      have G2 := fun ob => (Ext.alloc wr ob).cell g2
      have G3 := fun ob => (Ext.alloc wr ob).cell g3
      have G4 := fun ob => (Ext.alloc wr ob).cell g4
      have HX2 : Hd (∀ o1 o2 : Obj, Ext wr ((wr.alloc o1).alloc o2)) := fun o1 o2 => (Ext.alloc _ _).trans (Ext.alloc _ _)
      clear r1 r2 f1 f2 hp
      go_wp2_with (go_at_call 33; refine Calls.mono (unhide HP _ (unhide HX2 _ _)) ?_; rintro e w2 ⟨rfl, hw⟩; have X2 := hide (((unhide hX).trans (unhide HX2 _ _)).trans hw); clear hw)
      go_roundw
      case rel => exact ⟨j + 1, by go_num, by omega, X2⟩
      case measure => simp [intOf]; omega
    · obtain rfl : j = n := by omega
      go_wp2_with fail
      go_ret
      exact ⟨rfl, unhide hX⟩

/-- A tree whose lists are bounded. -/
def bdN : Nat → PN → Bool
  | 0, _ => false
  | f + 1, p => decide (p.l.length ≤ 100000000) && decide (p.s.size ≤ 100000000) && p.l.all (bdN f)

set_option maxHeartbeats 1000000 in
theorem same_w : ∀ (f : Nat) (p : PN), bdN f p = true → SameOf p := by
  intro f
  induction f with
  | zero => intro p h; cases h
  | succ f ih =>
    intro p h va vb w h1 h2
    obtain ⟨k, o, s, n, l⟩ := p
    rw [bdN] at h
    simp only [Bool.and_eq_true, decide_eq_true_eq, List.all_eq_true] at h
    obtain ⟨⟨hlen, hs⟩, hall⟩ := h
    rw [RepN] at h1 h2
    obtain ⟨a, ca, rfl, _, hA⟩ := h1
    obtain ⟨b, cb, rfl, _, hB⟩ := h2
    have HQ := hide (fun (W : World) (x : Ext w W) => eqf_w l (fun p hp => ih p (hall p hp)) a b ca cb W (hA.inw x) (hB.inw x) hlen)
    have HX2 : Hd (∀ o1 o2 : Obj, Ext w ((w.alloc o1).alloc o2)) := fun o1 o2 => (Ext.alloc _ _).trans (Ext.alloc _ _)
    clear hA hB ih hall
    generalize l.length = m at *
    go_enter Tryz.func33, Tryz.ntmps33
    go_wp2_with (go_at_call 70; refine Calls.mono (unhide HQ _ (unhide HX2 _ _)) ?_; rintro e w2 ⟨rfl, hw⟩; have X2 := hide ((unhide HX2 _ _).trans hw); clear hw)
    go_ret
    exact ⟨rfl, unhide X2⟩

end Go.Proofs.YtbcflcnkhhkogaaGreatDoor

namespace Go.Proofs.YtbcflcnkhhkogaaGreatDoor
open Go.RowKit

theorem ext_wrk {g : Nat} {w W2 W : World} (h : Ext w W2) (k : WrK g W2 W) (hg : w.heap.size ≤ g) : Ext w W :=
  ⟨k.os.trans h.os, k.tape.trans h.tape, k.output.trans h.output, Nat.le_trans h.size k.size, fun b hb => (k.low b (by omega)).trans (h.block b hb)⟩

set_option maxHeartbeats 1000000 in
theorem show_w (p : PN) (f f2 f3 : Nat) (l : List UInt8) (n : Int) (st : PS) (v : Value) (w : World) (he : Er w) (hO : Opx w) (hN : RepN w (InW w) p v)
    (hE : wE f p 1 (([], false), 0) = some ((l, false), n)) (hx : xrP ⟨l.toArray⟩ f2 = (p, st)) (hst : st.e = 0) (hb : bdN f3 p = true) (hl : l.length ≤ 4000) (hf : (begP ⟨l.toArray⟩).ts.length < f2) (hf2 : f2 ≤ 100000) :
    Calls Tryz.prog 17 #[v] w fun e w' => e = .returned (.tuple #[.string ⟨l.toArray⟩, .bool true]) ∧ Ext w w' := by
  have hop := opx_lt hO
  obtain ⟨pk, po, ps, pn, pl⟩ := p
  have HTr := hide (fun (W : World) (k : Ext w W) => hN.inw k)
  have HT2 : Hd (∀ W, Ext w W → RepN W (fun b => b < w.heap.size + 1) ⟨pk, po, ps, pn, pl⟩ v) := fun W k => RepN.to (fun b hb => ⟨by have : b < w.heap.size := hb; omega, k.block b hb⟩) _ _ hN
  rw [RepN] at hN
  obtain ⟨a, cap, rfl, hcap, hL⟩ := hN
  have I0 : Hd (WrI ((w.alloc (nodW pk po ps pn a pl.length cap)).alloc (wrO (.slice none 0 0) 0 false)) (w.heap.size + 1) (([], false), 0)) := by
    refine ⟨⟨.slice none 0 0, ?_, World.ownsRow_nil _ _ _ _⟩, by simp, (hO.ext (Ext.alloc _ _)).ext (Ext.alloc _ _), by omega⟩
    have := Go.heap_alloc_new (w.alloc (nodW pk po ps pn a pl.length cap)) (wrO (.slice none 0 0) 0 false)
    rw [size_alloc] at this
    exact this
  have HX2 : Hd (Ext w ((w.alloc (nodW pk po ps pn a pl.length cap)).alloc (wrO (.slice none 0 0) 0 false))) := (Ext.alloc _ _).trans (Ext.alloc _ _)
  have HEx := hide (expr_w (w.heap.size + 1) f _ 1 _ _ _ _ hE (unhide I0) (unhide HT2 _ (unhide HX2)))
  have HBx : Hd (∀ W, WrK (w.heap.size + 1) ((w.alloc (nodW pk po ps pn a pl.length cap)).alloc (wrO (.slice none 0 0) 0 false)) W → W.heap[w.heap.size]? = some (nodW pk po ps pn a pl.length cap)) := fun W k => by
    have h0 : ((w.alloc (nodW pk po ps pn a pl.length cap)).alloc (wrO (.slice none 0 0) 0 false)).heap[w.heap.size]? = some (nodW pk po ps pn a pl.length cap) := ((Ext.alloc _ _).block _ (by rw [size_alloc]; omega)).trans (Go.heap_alloc_new w _)
    exact (k.keep w.heap.size (by rw [size_alloc, size_alloc]; omega) (by omega) (nodO_not h0)).trans h0
  have HXw : Hd (∀ W, WrK (w.heap.size + 1) ((w.alloc (nodW pk po ps pn a pl.length cap)).alloc (wrO (.slice none 0 0) 0 false)) W → Ext w W) := fun W k => ext_wrk (unhide HX2) k (by omega)
  have HTd := hide (fun (W : World) (h : Wr W (w.heap.size + 1) l n false) => told_any (w.heap.size + 1) l n false W h)
  have HXp : Hd (∀ W, Ext w W → Calls Tryz.prog 9 #[.string ⟨l.toArray⟩] W fun e w' => ∃ ua uc, e = .returned (.tuple #[.agg #[.int .i64 pk, .int .i64 po, .string ps, .int .i64 pn, .slice ua pl.length uc], .int .i64 0, .int .i64 0]) ∧ RepN w' (InW w') ⟨pk, po, ps, pn, pl⟩ (.agg #[.int .i64 pk, .int .i64 po, .string ps, .int .i64 pn, .slice ua pl.length uc]) ∧ Ext W w') := fun W x => by
    refine Calls.mono (exprT_any ⟨l.toArray⟩ f2 W (he.on x) (hO.ext x) (by show l.toArray.size ≤ _; simp; omega) hf hf2) ?_
    rw [hx]
    rintro e w' ⟨hw, h9 | ⟨h9, u, rfl, ru⟩⟩
    · exact absurd hst h9.1
    · have ru2 : RepN w' (InW w') ⟨pk, po, ps, pn, pl⟩ u := RepN.to (fun b hb => ⟨hb.2, rfl⟩) _ _ ru
      have ru3 := ru2
      rw [RepN] at ru3
      obtain ⟨ua, uc, rfl, _, _⟩ := ru3
      exact ⟨ua, uc, rfl, ru2, hw⟩
  have HSm := hide (same_w f3 ⟨pk, po, ps, pn, pl⟩ hb)
  clear hE hx hb hf hf2 hO he hL hst
  generalize pl.length = m at *
  go_enter Tryz.func17, Tryz.ntmps17
  go_wp2_with (first
    | (go_at_call 31; refine Calls.mono (unhide HEx) ?_; rintro e w3 ⟨rfl, h9, l9, k9⟩; have W3 := hide h9; have hrow := unhide HBx _ k9; have X3 := hide (unhide HXw _ k9); have R3 := hide hrow; clear h9 l9 k9 hrow)
    | (go_at_call 32; refine Calls.mono (unhide HTd _ (unhide W3)) ?_; rintro e w4 ⟨rfl, hw⟩; obtain rfl := hw.symm)
    | (have T9 := unhide X3; go_at_call 9; refine Calls.mono (unhide HXp _ T9) ?_; rintro e w5 ⟨ua, uc, rfl, ru, hw⟩; have X5 := hide ((unhide X3).trans hw); have r5 := hw.row (unhide R3); have c0 := rowC r5 0 rfl; have c1 := rowC r5 1 rfl; have c2 := rowC r5 2 rfl; have c3 := rowC r5 3 rfl; have c4 := rowC r5 4 rfl; have C0 := (fun ob => (Ext.alloc w5 ob).cell c0); have C1 := (fun ob => (Ext.alloc w5 ob).cell c1); have C2 := (fun ob => (Ext.alloc w5 ob).cell c2); have C3 := (fun ob => (Ext.alloc w5 ob).cell c3); have C4 := (fun ob => (Ext.alloc w5 ob).cell c4); have U5 := hide ru; clear hw ru r5 T9)
    | (have T9 := unhide X5; go_at_call 33; refine Calls.mono (unhide HSm _ _ _ (unhide HTr _ (T9.trans (Ext.alloc _ _))) ((unhide U5).inw (Ext.alloc _ _))) ?_; rintro e w6 ⟨rfl, hw⟩; have X6 := hide ((T9.trans (Ext.alloc _ _)).trans hw); clear hw T9))
  exact bodyPost_ret (v := .tuple #[.string ⟨l.toArray⟩, .bool true]) (by simp [results, Tryz.results17, go_sem]) rfl ⟨rfl, unhide X6⟩

end Go.Proofs.YtbcflcnkhhkogaaGreatDoor
