/- The writer of parse: functions. · Two programs that are the same. -/
import Derived.Test.YthoablpjkgeekaaGreatDoorZc39
import Derived.Test.YthoablpjkgeekaaGreatDoorZc38
set_option linter.unusedSimpArgs false
set_option linter.unusedVariables false
set_option maxRecDepth 10000

namespace Go.Proofs.YthoablpjkgeekaaGreatDoor
open Go.RowKit

/-- The cells of one function of a row. -/
theorem rowF_at {w : World} {F : Nat → Prop} : ∀ {ps : List PFn} {xs : List Value}, RowF w F ps xs → ∀ (i : Nat) (p : PFn), ps[i]? = some p →
    ∃ pa pc a cap, (∀ (r : Nat) u, (fnC p pa pc a cap)[r]? = some u → xs[i * 7 + r]? = some u) ∧ p.ps.length ≤ pc ∧ RepS w F p.ps pa ∧ p.bd.l.length ≤ cap ∧ RepNL w F p.bd.l a := by
  intro ps
  induction ps with
  | nil => intro xs _ i p h; simp at h
  | cons q ps ih =>
    intro xs hx i p hp
    obtain ⟨pa, pc, a, cap, rest, rfl, h1, h2, h3, h4, hr⟩ := hx
    cases i with
    | zero =>
      simp at hp
      subst hp
      refine ⟨pa, pc, a, cap, fun r u hu => ?_, h1, h2, h3, h4⟩
      rw [Nat.zero_mul, Nat.zero_add]
      rw [List.getElem?_append_left (List.getElem?_eq_some_iff.1 hu).1]
      exact hu
    | succ j =>
      simp at hp
      obtain ⟨pa', pc', a', cap', hc, r⟩ := ih hr j p hp
      refine ⟨pa', pc', a', cap', fun r u hu => ?_, r⟩
      rw [List.getElem?_append_right (by simp; omega)]
      rw [← hc r u hu]
      congr 1
      simp
      omega

set_option maxHeartbeats 2000000 in
theorem functions_w (g : Nat) (E : PN → Int → WrP) (f : Nat) (hE : ExW g E) (ps : List PFn) (a : Option Addr) (cap : Nat) (x y : WS3) (w : World) (I : WrI w g x) (hP : RepFL w (fun b => b < g) ps a) (hn : ps.length ≤ 1000000) (hy : wFs E f ps x = some y) :
    Calls Tryz.prog 24 #[.pointer (some ⟨g, 0, none⟩), .slice a ps.length cap] w (WrE g w y) := by
  have HB := hide (block_all g E hE f)
  have HPa := hide (fun (ps : List ByteArray) (a : Option Addr) (cap : Nat) (x : WS3) (W : World) (I : WrI W g x) (hP : RepS W (fun b => b < g) ps a) (hs : ∀ s ∈ ps, s.size ≤ 100000000) (hn : ps.length ≤ 1000000) => params_w g ps a cap x W I hP hs hn)
  have HP := hide hP
  have X0 := hide I
  clear hP I hE
  have HR : Hd (wFs E f (ps.drop 0) x = some y) := hy
  clear hy
  generalize hM : ps.length = m at *
  go_enter Tryz.func24, Tryz.ntmps24
  go_wp2_with fail
  go_loopw [4] (fun t wr => ∃ (j : Nat) (z : WS3), t = .int .i64 j ∧ j ≤ m ∧ Hd (wFs E f (ps.drop j) z = some y) ∧ Hd (WrI wr g z) ∧ Hd (WrK g w wr)) (fun t _ => m - (intOf t).toNat)
  case atStart => exact ⟨0, _, rfl, by omega, HR, X0, WrK.refl _ _⟩
  case round =>
    clear HR X0
    obtain ⟨j, z, rfl, hj, hE, hI, hF⟩ := hrel
    have hw := (unhide hI).wr.wrong
    obtain ⟨⟨zl, zb⟩, zn⟩ := z
    simp only at hw
    by_cases hlt : j < m
    · obtain ⟨q, hs⟩ : ∃ q, ps[j]? = some q := ⟨_, List.getElem?_eq_getElem (by omega)⟩
      have hd : ps.drop j = q :: ps.drop (j + 1) := by
        obtain ⟨h1, h2⟩ := List.getElem?_eq_some_iff.1 hs
        rw [List.drop_eq_getElem_cons h1, h2]
      have hE2 := unhide hE
      rw [hd, wFs] at hE2
      simp only at hE2
      cases zb with
      | true =>
        rw [if_pos rfl] at hE2
        injection hE2 with hE2
        subst hE2
        clear hd hs hE
        go_wp2_with fail
        go_end0
        exact ⟨rfl, (unhide hI).wr, (unhide hI).len, unhide hF⟩
      | false =>
        rw [if_neg (by decide)] at hE2
        by_cases hbig : 100000000 < q.nm.size ∨ 1000000 < q.ps.length ∨ q.ps.any (fun s => decide (100000000 < s.size)) = true
        · rw [if_pos hbig] at hE2; cases hE2
        rw [if_neg hbig] at hE2
        obtain ⟨u, hu, hE3⟩ : ∃ u, wBk E f q.bd (wPar q.ps (wW ((zl, false), zn) [⟨#[102, 110]⟩, q.nm])) = some u ∧ wFs E f (ps.drop (j + 1)) u = some y := by
          split at hE2
          · cases hE2
          · rename_i u hu
            exact ⟨u, hu, hE2⟩
        have HE3 := hide hE3
        have HU := hide hu
        have hb1 : Hd (q.nm.size ≤ 100000000) := Nat.le_of_not_lt fun h => hbig (Or.inl h)
        have hb2 : Hd (q.ps.length ≤ 1000000) := Nat.le_of_not_lt fun h => hbig (Or.inr (Or.inl h))
        have hb3 : Hd (∀ s ∈ q.ps, s.size ≤ 100000000) := fun s hs => Nat.le_of_not_lt fun h => hbig (Or.inr (Or.inr (List.any_eq_true.2 ⟨s, hs, by simpa using h⟩)))
        rcases unhide HP with h0 | ⟨b, off, xs, rfl, hb, hrow, hc⟩
        · rw [h0] at hs; simp at hs
        obtain ⟨pa, pc, qa, qc, hcs, h1, hS, h3, hL⟩ := rowF_at hrow j q hs
        have HCell : Hd (∀ W, WrK g w W → ∀ (r : Nat) u, (fnC q pa pc qa qc)[r]? = some u → W.cell? ⟨b, off + j * 7 + r, none⟩ = some u) := fun W k r u hu => by
          rw [Nat.add_assoc]
          exact (World.cell?_of_block (a := ⟨b, off + (j * 7 + r), none⟩) (w := w) (k.low b hb)).trans (hc _ _ (hcs r u hu))
        have HSS := hide (fun (W : World) (k : WrK g w W) => RepS.to (F' := fun b => b < g) (fun b hb => ⟨hb, k.low b hb⟩) hS)
        have HT := hide (fun (W : World) (k : WrK g w W) => (show RepN W (fun b => b < g) q.bd (.agg #[.int .i64 q.bd.k, .int .i64 q.bd.o, .string q.bd.s, .int .i64 q.bd.n, .slice qa q.bd.l.length qc]) by
          obtain ⟨nm, qps, bk, bo, bs, bn, bl⟩ := q
          rw [RepN]
          exact ⟨qa, qc, rfl, h3, hL.wrk k⟩))
        have k0 := unhide HCell _ (unhide hF)
        have d0 := k0 0 _ rfl
        rw [Nat.add_zero] at d0
        have d1 := k0 1 _ rfl
        have d2 := k0 2 _ rfl
        have d3 := k0 3 _ rfl
        have d4 := k0 4 _ rfl
        have d5 := k0 5 _ rfl
        have d6 := k0 6 _ rfl
        clear k0 hE2 hd hs hE hE3 hu hc hcs HP hbig hrow h1 hS h3 hL
        go_wp2_with (first
          | (have T9 := unhide hI; go_at_call 54; refine Calls.mono (words2 g _ ⟨#[102, 110]⟩ q.nm _ _ (by first | rfl | simp) T9 (by decide) (unhide hb1)) ?_; rintro e w4 ⟨rfl, h9, l9, k9⟩; have K4 := hide ((unhide hF).trans k9); have X4 := hide ((unhide hI).go k9 h9 l9); have k0 := unhide HCell _ (unhide K4); have d0 := k0 0 _ rfl; rw [Nat.add_zero] at d0; have d1 := k0 1 _ rfl; have d2 := k0 2 _ rfl; have d3 := k0 3 _ rfl; have d4 := k0 4 _ rfl; have d5 := k0 5 _ rfl; have d6 := k0 6 _ rfl; clear k0 h9 l9 k9 T9 hI)
          | (have T9 := unhide X4; go_at_call 55; refine Calls.mono (unhide HPa _ _ _ _ _ T9 (unhide HSS _ (unhide K4)) (unhide hb3) (unhide hb2)) ?_; rintro e w5 ⟨rfl, h9, l9, k9⟩; have K5 := hide ((unhide K4).trans k9); have X5 := hide ((unhide X4).go k9 h9 l9); have k0 := unhide HCell _ (unhide K5); have d0 := k0 0 _ rfl; rw [Nat.add_zero] at d0; have d1 := k0 1 _ rfl; have d2 := k0 2 _ rfl; have d3 := k0 3 _ rfl; have d4 := k0 4 _ rfl; have d5 := k0 5 _ rfl; have d6 := k0 6 _ rfl; clear k0 h9 l9 k9 T9 X4)
          | (have T9 := unhide X5; go_at_call 56; refine Calls.mono (unhide HB _ _ _ _ _ (unhide HU) T9 (unhide HT _ (unhide K5))) ?_; rintro e w6 ⟨rfl, h9, l9, k9⟩; have K6 := hide ((unhide K5).trans k9); have X6 := hide ((unhide X5).go k9 h9 l9); clear h9 l9 k9 T9 X5))
        go_roundw
        case rel => exact ⟨j + 1, u, by go_num, by omega, HE3, X6, K6⟩
        case measure => simp [intOf]; omega
    · obtain rfl : j = m := by omega
      have HQR : ((zl, zb), zn) = y := by
        have := unhide hE
        rw [List.drop_eq_nil_of_le (by omega), wFs] at this
        exact Option.some.inj this
      subst HQR
      clear hE
      go_wp2_with fail
      go_end0
      exact ⟨rfl, (unhide hI).wr, (unhide hI).len, unhide hF⟩

end Go.Proofs.YthoablpjkgeekaaGreatDoor

namespace Go.Proofs.YthoablpjkgeekaaGreatDoor
open Go.RowKit

theorem RepS.at {w : World} {F : Nat → Prop} {ps : List ByteArray} {a : Option Addr} (h : RepS w F ps a) (i : Nat) (s : ByteArray) (hs : ps[i]? = some s) : ∃ b off, a = some ⟨b, off, none⟩ ∧ F b ∧ w.cell? ⟨b, off + i, none⟩ = some (.string s) := by
  rcases h with rfl | ⟨b, off, rfl, hb, hc⟩
  · simp at hs
  · exact ⟨b, off, rfl, hb, hc i _ (by rw [List.getElem?_map, hs]; rfl)⟩
theorem RepS.inw {w w' : World} {l : List ByteArray} {a : Option Addr} (h : RepS w (InW w) l a) (k : Ext w w') : RepS w' (InW w') l a := RepS.to (fun b hb => ⟨Nat.lt_of_lt_of_le hb k.size, k.block b hb⟩) h
theorem RepFL.inw {w w' : World} {l : List PFn} {a : Option Addr} (h : RepFL w (InW w) l a) (k : Ext w w') : RepFL w' (InW w') l a := RepFL.to (fun b hb => ⟨Nat.lt_of_lt_of_le hb k.size, k.block b hb⟩) h
theorem RepFL.at {w : World} {F : Nat → Prop} {ps : List PFn} {a : Option Addr} (h : RepFL w F ps a) (i : Nat) (p : PFn) (hp : ps[i]? = some p) :
    ∃ b off pa pc qa qc, a = some ⟨b, off, none⟩ ∧ F b ∧ (∀ (r : Nat) u, (fnC p pa pc qa qc)[r]? = some u → w.cell? ⟨b, off + i * 7 + r, none⟩ = some u) ∧ p.ps.length ≤ pc ∧ RepS w F p.ps pa ∧ p.bd.l.length ≤ qc ∧ RepNL w F p.bd.l qa := by
  rcases h with rfl | ⟨b, off, xs, rfl, hb, hrow, hc⟩
  · simp at hp
  · obtain ⟨pa, pc, qa, qc, hcs, h1, hS, h3, hL⟩ := rowF_at hrow i p hp
    exact ⟨b, off, pa, pc, qa, qc, rfl, hb, fun r u hu => by rw [Nat.add_assoc]; exact hc _ _ (hcs r u hu), h1, hS, h3, hL⟩

set_option maxHeartbeats 1000000 in
theorem eqs_w (l : List ByteArray) (a b : Option Addr) (ca cb : Nat) (w : World) (h1 : RepS w (InW w) l a) (h2 : RepS w (InW w) l b) (hn : l.length ≤ 100000000) :
    Calls Tryz.prog 57 #[.slice a l.length ca, .slice b l.length cb] w fun e w' => e = .returned (.bool true) ∧ Ext w w' := by
  have HA := hide h1
  have HB := hide h2
  clear h1 h2
  generalize hN : l.length = n at *
  go_enter Tryz.func57, Tryz.ntmps57
  go_wp2_with fail
  go_loopw [13] (fun t wr => ∃ (j : Nat), t = .int .i64 j ∧ j ≤ n ∧ Hd (Ext w wr)) (fun t _ => n - (intOf t).toNat)
  case atStart => exact ⟨0, rfl, by omega, Ext.refl w⟩
  case round =>
    obtain ⟨j, rfl, hj, hX⟩ := hrel
    by_cases hlt : j < n
    · obtain ⟨p, hp⟩ : ∃ p, l[j]? = some p := ⟨_, List.getElem?_eq_getElem (by omega)⟩
      obtain ⟨b1, o1, rfl, f1, e0⟩ := ((unhide HA).inw (unhide hX)).at j p hp
      obtain ⟨b2, o2, rfl, f2, g0⟩ := ((unhide HB).inw (unhide hX)).at j p hp
      clear f1 f2 hp
      go_wp2_with fail
      go_region
      go_wp2_with fail
      go_roundw
      case rel => exact ⟨j + 1, by go_num, by omega, (unhide hX).drew⟩
      case measure => simp [intOf]; omega
    · obtain rfl : j = n := by omega
      go_wp2_with fail
      go_ret
      exact ⟨rfl, unhide hX⟩

/-- A function whose lists are bounded. -/
def bdF (f : Nat) (q : PFn) : Bool := decide (q.ps.length ≤ 100000000) && bdN f q.bd

set_option maxHeartbeats 1000000 in
theorem sameF_w (f : Nat) (q : PFn) (hb : bdF f q = true) (pa pb : Option Addr) (ca cb : Nat) (qa qb : Option Addr) (da db : Nat) (w : World) (h1 : RepS w (InW w) q.ps pa) (h2 : RepS w (InW w) q.ps pb) (hd1 : q.bd.l.length ≤ da) (hd2 : q.bd.l.length ≤ db) (h3 : RepNL w (InW w) q.bd.l qa) (h4 : RepNL w (InW w) q.bd.l qb) :
    Calls Tryz.prog 27 #[funV q.nm pa q.ps.length ca q.bd.k q.bd.o q.bd.s q.bd.n qa q.bd.l.length da, funV q.nm pb q.ps.length cb q.bd.k q.bd.o q.bd.s q.bd.n qb q.bd.l.length db] w fun e w' => e = .returned (.bool true) ∧ Ext w w' := by
  obtain ⟨nm, ps, bk, bo, bs, bn, bl⟩ := q
  simp only [bdF, Bool.and_eq_true, decide_eq_true_eq] at hb
  obtain ⟨hp, hN⟩ := hb
  simp only at *
  have HX2 : Hd (∀ o1 o2 : Obj, Ext w ((w.alloc o1).alloc o2)) := fun o1 o2 => (Ext.alloc _ _).trans (Ext.alloc _ _)
  have HE := hide (fun (W : World) (x : Ext w W) => eqs_w ps pa pb ca cb W (h1.inw x) (h2.inw x) hp)
  have HS := hide (fun (W : World) (x : Ext w W) => same_w f ⟨bk, bo, bs, bn, bl⟩ hN (.agg #[.int .i64 bk, .int .i64 bo, .string bs, .int .i64 bn, .slice qa bl.length da]) (.agg #[.int .i64 bk, .int .i64 bo, .string bs, .int .i64 bn, .slice qb bl.length db]) W (by rw [RepN]; exact ⟨_, _, rfl, hd1, h3.inw x⟩) (by rw [RepN]; exact ⟨_, _, rfl, hd2, h4.inw x⟩))
  have HR1 : Hd (∀ W, Ext ((w.alloc (funO nm pa ps.length ca bk bo bs bn qa bl.length da)).alloc (funO nm pb ps.length cb bk bo bs bn qb bl.length db)) W → W.heap[w.heap.size]? = some (funO nm pa ps.length ca bk bo bs bn qa bl.length da) ∧ W.heap[w.heap.size + 1]? = some (funO nm pb ps.length cb bk bo bs bn qb bl.length db)) := fun W x => by
    have e0 : ((w.alloc (funO nm pa ps.length ca bk bo bs bn qa bl.length da)).alloc (funO nm pb ps.length cb bk bo bs bn qb bl.length db)).heap[w.heap.size]? = some (funO nm pa ps.length ca bk bo bs bn qa bl.length da) := ((Ext.alloc _ _).block _ (by rw [size_alloc]; omega)).trans (Go.heap_alloc_new w _)
    have e1 := Go.heap_alloc_new (w.alloc (funO nm pa ps.length ca bk bo bs bn qa bl.length da)) (funO nm pb ps.length cb bk bo bs bn qb bl.length db)
    rw [size_alloc] at e1
    exact ⟨(x.block _ (by rw [size_alloc, size_alloc]; omega)).trans e0, (x.block _ (by rw [size_alloc, size_alloc]; omega)).trans e1⟩
  clear h1 h2 h3 h4 hN
  generalize bl.length = m at *
  generalize ps.length = pn at *
  go_enter Tryz.func27, Tryz.ntmps27
  go_wp2_with (first
    | (go_at_call 57; refine Calls.mono (unhide HE _ (unhide HX2 _ _)) ?_; rintro e w2 ⟨rfl, hw⟩; obtain ⟨R1, R2⟩ := unhide HR1 _ hw; have c0 := rowC R1 2 rfl; have c1 := rowC R1 3 rfl; have c2 := rowC R1 4 rfl; have c3 := rowC R1 5 rfl; have c4 := rowC R1 6 rfl; have d0 := rowC R2 2 rfl; have d1 := rowC R2 3 rfl; have d2 := rowC R2 4 rfl; have d3 := rowC R2 5 rfl; have d4 := rowC R2 6 rfl; have X2 := hide ((unhide HX2 _ _).trans hw); clear hw R1 R2)
    | (have T9 := unhide X2; go_at_call 44; refine Calls.mono (unhide HS _ T9) ?_; rintro e w3 ⟨rfl, hw⟩; have X3 := hide (T9.trans hw); clear hw T9))
  go_ret
  exact ⟨rfl, unhide X3⟩

set_option maxHeartbeats 1000000 in
theorem eqF_w (f : Nat) (l : List PFn) (hl : l.all (bdF f) = true) (a b : Option Addr) (ca cb : Nat) (w : World) (h1 : RepFL w (InW w) l a) (h2 : RepFL w (InW w) l b) (hn : l.length ≤ 100000000) :
    Calls Tryz.prog 26 #[.slice a l.length ca, .slice b l.length cb, .func (.func 27) #[] #[]] w fun e w' => e = .returned (.bool true) ∧ Ext w w' := by
  have HA := hide h1
  have HB := hide h2
  have HS := hide hl
  clear h1 h2 hl
  generalize hN : l.length = n at *
  go_enter Tryz.func26, Tryz.ntmps26
  go_wp2_with fail
  go_loopw [17] (fun t wr => ∃ (j : Nat), t = .int .i64 j ∧ j ≤ n ∧ Hd (Ext w wr)) (fun t _ => n - (intOf t).toNat)
  case atStart => exact ⟨0, rfl, by omega, Ext.refl w⟩
  case round =>
    obtain ⟨j, rfl, hj, hX⟩ := hrel
    by_cases hlt : j < n
    · obtain ⟨q, hq⟩ : ∃ q, l[j]? = some q := ⟨_, List.getElem?_eq_getElem (by omega)⟩
      have hbq : bdF f q = true := List.all_eq_true.1 (unhide HS) q (List.mem_of_getElem? hq)
      obtain ⟨b1, o1, pa, ca1, qa, da, rfl, f1, k1, _, s1, m1, t1⟩ := ((unhide HA).inw (unhide hX)).at j q hq
      obtain ⟨b2, o2, pb, cb1, qb, db, rfl, f2, k2, _, s2, m2, t2⟩ := ((unhide HB).inw (unhide hX)).at j q hq
      have HP := hide (fun (W : World) (k : Ext wr W) => sameF_w f q hbq pa pb ca1 cb1 qa qb da db W (s1.inw k) (s2.inw k) m1 m2 (t1.inw k) (t2.inw k))
      have HX2 : Hd (∀ o1 o2 : Obj, Ext wr ((wr.alloc o1).alloc o2)) := fun o1 o2 => (Ext.alloc _ _).trans (Ext.alloc _ _)
      have u0 := k1 0 _ rfl
      rw [Nat.add_zero] at u0
      have u1 := k1 1 _ rfl
      have u2 := k1 2 _ rfl
      have u3 := k1 3 _ rfl
      have u4 := k1 4 _ rfl
      have u5 := k1 5 _ rfl
      have u6 := k1 6 _ rfl
      have v0 := k2 0 _ rfl
      rw [Nat.add_zero] at v0
      have v1 := k2 1 _ rfl
      have v2 := k2 2 _ rfl
      have v3 := k2 3 _ rfl
      have v4 := k2 4 _ rfl
      have v5 := k2 5 _ rfl
      have v6 := k2 6 _ rfl
      have U0 := fun ob => (Ext.alloc wr ob).cell u0
      have U1 := fun ob => (Ext.alloc wr ob).cell u1
      have U2 := fun ob => (Ext.alloc wr ob).cell u2
      have U3 := fun ob => (Ext.alloc wr ob).cell u3
      have U4 := fun ob => (Ext.alloc wr ob).cell u4
      have U5 := fun ob => (Ext.alloc wr ob).cell u5
      have U6 := fun ob => (Ext.alloc wr ob).cell u6
      have V0 := fun ob => (Ext.alloc wr ob).cell v0
      have V1 := fun ob => (Ext.alloc wr ob).cell v1
      have V2 := fun ob => (Ext.alloc wr ob).cell v2
      have V3 := fun ob => (Ext.alloc wr ob).cell v3
      have V4 := fun ob => (Ext.alloc wr ob).cell v4
      have V5 := fun ob => (Ext.alloc wr ob).cell v5
      have V6 := fun ob => (Ext.alloc wr ob).cell v6
      clear k1 k2 s1 s2 t1 t2 f1 f2 hq hbq
      go_wp2_with (go_at_call 27; refine Calls.mono (unhide HP _ (unhide HX2 _ _)) ?_; rintro e w2 ⟨rfl, hw⟩; have X2 := hide (((unhide hX).trans (unhide HX2 _ _)).trans hw); clear hw)
      go_roundw
      case rel => exact ⟨j + 1, by go_num, by omega, X2⟩
      case measure => simp [intOf]; omega
    · obtain rfl : j = n := by omega
      go_wp2_with fail
      go_ret
      exact ⟨rfl, unhide hX⟩

end Go.Proofs.YthoablpjkgeekaaGreatDoor
