/- Through a tree: what is open, as a row. · Through a tree. · The parameters are the first locals. · A function: what its names mean. -/
import Derived.Test.YtlgdjeiendmniaaGreatDoorZg28
import Derived.Deep.LoopGhost
set_option linter.unusedSimpArgs false
set_option linter.unusedVariables false
set_option maxRecDepth 10000

namespace Go.Proofs.YtlgdjeiendmniaaGreatDoor
open Go.RowKit Go.Maps

/-- A node that is open: the tree, how many of its parts were gone through, where it lies. -/
structure OpN where
  p : PN
  d : Nat
  b : Nat
  o : Nat
def opC (x : OpN) : List Value := [.pointer (some ⟨x.b, x.o, none⟩), .int .i64 (x.d : Int)]
def opP (x : OpN) : PN × Nat := (x.p, x.d)

theorem flat_len (l : List OpN) : (l.flatMap opC).length = l.length * 2 := by
  induction l with
  | nil => rfl
  | cons x r ih => rw [List.flatMap_cons, List.length_append, ih]; simp [opC]; omega
theorem flat_last (r : List OpN) (x : OpN) : (x :: r).reverse.flatMap opC = r.reverse.flatMap opC ++ opC x := by
  rw [List.reverse_cons, List.flatMap_append]; simp
theorem flat_rlen (l : List OpN) : (l.reverse.flatMap opC).length = l.length * 2 := by rw [flat_len, List.length_reverse]

/-- A tree of a row, and where it lies. -/
theorem repNL_atS {w : World} {F : Nat → Prop} : ∀ {l : List PN} {a : Option Addr} {d : Nat} {q : PN}, RepNL w F l a → l[d]? = some q → ∃ b off, a = some ⟨b, off, none⟩ ∧ F b ∧ ∃ a' cap', w.cell? ⟨b, off + d * 5, none⟩ = some (.int .i64 q.k) ∧ w.cell? ⟨b, off + d * 5 + 2, none⟩ = some (.string q.s) ∧ w.cell? ⟨b, off + d * 5 + 4, none⟩ = some (.slice a' q.l.length cap') ∧ q.l.length ≤ cap' ∧ RepNL w F q.l a' := by
  intro l
  induction l with
  | nil => intro a d q _ h; simp at h
  | cons x xs ih =>
    intro a d q hr h
    rw [RepNL] at hr
    obtain ⟨b, off, c0, c1, c2, c3, c4, rfl, hf, hx, h0, h1, h2, h3, h4, hxs⟩ := hr
    cases d with
    | zero =>
      obtain rfl : x = q := by simpa using h
      obtain ⟨k, o, s, n, l⟩ := x
      rw [RepN] at hx
      obtain ⟨a', cap', e, hc, hl⟩ := hx
      injection e with e
      simp at e
      obtain ⟨rfl, rfl, rfl, rfl, rfl⟩ := e
      exact ⟨b, off, rfl, hf, a', cap', by simpa using h0, by simpa using h2, by simpa using h4, hc, hl⟩
    | succ d =>
      obtain ⟨b', off', e, hf', a', cap', k0, k2, k4, hc, hl⟩ := ih hxs (by simpa using h)
      injection e with e
      injection e with e1 e2
      subst e1 e2
      have e5 : off + 5 + d * 5 = off + (d + 1) * 5 := by omega
      rw [e5] at k0 k2 k4
      exact ⟨b, off, rfl, hf, a', cap', k0, k2, k4, hc, hl⟩

theorem NodeAt.child {w : World} {col : Nat → Nat} {p q : PN} {nb no d : Nat} (h : NodeAt w col p nb no) (hd : p.l[d]? = some q) : ∃ cb co cap, w.cell? ⟨nb, no + 4, none⟩ = some (.slice (some ⟨cb, co, none⟩) p.l.length cap) ∧ p.l.length ≤ cap ∧ NodeAt w col q cb (co + d * 5) := by
  obtain ⟨a, cap, h0, h2, h4, hc, hr⟩ := h.ex
  obtain ⟨b, off, rfl, hf, a', cap', k0, k2, k4, hc', hl⟩ := repNL_atS hr hd
  exact ⟨b, off, cap, h4, hc, ⟨hf.1, hf.2, a', cap', k0, k2, k4, hc', hl⟩⟩

theorem own_prefix {w : World} {t : TypeId} {size : Nat} {a : Option Addr} {n m cap : Nat} {xs : List Value} (h : w.ownsRow 0 t size (.slice a n cap) n xs) (hm : m ≤ n) : w.ownsRow 0 t size (.slice a m cap) m (xs.take (m * size)) := by
  obtain ⟨h1, h2⟩ := h
  have hmul : m * size ≤ n * size := Nat.mul_le_mul_right _ hm
  refine ⟨by simp; omega, ?_⟩
  rcases h2 with ⟨e, h0⟩ | ⟨g, cap2, cur, e, hb, hg, hn, hcm, hcs, ht⟩
  · injection e with e1 e2 e3
    subst e1 e3
    have : m = 0 := by omega
    subst this
    exact Or.inl ⟨rfl, rfl⟩
  · injection e with e1 e2 e3
    subst e1 e3
    refine Or.inr ⟨g, cap, cur, rfl, hb, hg, by omega, hcm, hcs, ?_⟩
    rw [← ht, List.take_take, Nat.min_eq_left hmul]
theorem own_setS {w : World} {t : TypeId} {size g n cap : Nat} {xs : List Value} (h : w.ownsRow 0 t size (.slice (some ⟨g, 0, none⟩) n cap) n xs) (i : Nat) (v : Value) : (w.setCell ⟨g, i, none⟩ v).ownsRow 0 t size (.slice (some ⟨g, 0, none⟩) n cap) n (xs.set i v) := by
  obtain ⟨h1, h2⟩ := h
  refine ⟨by simpa using h1, ?_⟩
  rcases h2 with ⟨e, h0⟩ | ⟨g2, cap2, cur, e, hb, hg, hn, hcm, hcs, ht⟩
  · cases e
  · injection e with e1 e2 e3
    injection e1 with e1
    injection e1 with e1
    subst e1 e3
    refine Or.inr ⟨g, cap, cur.setIfInBounds i v, rfl, hb, row_set hg i v, hn, hcm, by simpa using hcs, ?_⟩
    rw [← ht, Array.toList_setIfInBounds, List.take_set]

/-- What holds at the loop's head. -/
structure ThI (B P M : Nat) (fv : Value) (nm : List (ByteArray × Int)) (fs : List PFn) (w0 wr : World) (col0 col : Nat → Nat) (stF st : WK) (stk : List OpN) (pa : Option Addr) (pc : Nat) (f : Nat) : Prop where
  ws : WS wr B P M fv col st
  wk : Wk col0 col w0 wr
  own : wr.ownsRow 0 150 2 (.slice pa stk.length pc) stk.length (stk.reverse.flatMap opC)
  hue : ∀ k, (Value.slice pa stk.length pc).ownBlock = some k → w0.heap.size ≤ k ∧ col k = 0
  nodes : ∀ x ∈ stk, NodeAt w0 col0 x.p x.b x.o ∧ small x.p.s = true ∧ x.d ≤ x.p.l.length ∧ x.d + f ≤ 9000000
  eq : thr nm fs f (stk.map opP) st = some stF
  bd : ∃ n, Bd st n ∧ n + f ≤ 9000000
  len : stk.length + f ≤ 9000000

theorem infoO : (Tryz.prog.info? 150).map (fun i => (i.zero, i.size, i.bytes)) = some (some (.agg #[.pointer none, .int .i64 0]), 2, 16) := by kernel_rfl
theorem one_open (a : Option Addr) (d : Int) : ∀ u ∈ ([.pointer a, .int .i64 d] : List Value), u.oneCell' = true := by
  intro u hu
  simp at hu
  rcases hu with rfl | rfl <;> rfl

/-- What a colour has is kept where only the path has turned. -/
theorem WS.path {w w' : World} {B P M : Nat} {fv : Value} {col : Nat → Nat} {st : WK} (h : WS w B P M fv col st) {g : Option Nat} (hg : w.grownBy w' g) (hc : ∀ k, g = some k → col k = 0) : WS w' B P M fv col st :=
  h.keep hg.size (fun k hk hne => hg.block k hk (fun e => hne (hc k e.symm)))
theorem Wk.path {w0 w w' : World} {col0 col : Nat → Nat} (h : Wk col0 col w0 w) {g : Option Nat} (hg : w.grownBy w' g) (hc : ∀ k, g = some k → w0.heap.size ≤ k) : Wk col0 col w0 w' :=
  ⟨hg.os.trans h.os, hg.tape.trans h.tape, hg.output.trans h.output, Nat.le_trans h.size hg.size, h.same, fun k hk h0 => (hg.block k (Nat.lt_of_lt_of_le hk h.size) (fun e => by have := hc k e.symm; omega)).trans (h.keep k hk h0)⟩
theorem own_keep {w w' : World} {t : TypeId} {size : Nat} {a : Option Addr} {n cap : Nat} {xs : List Value} (h : w.ownsRow 0 t size (.slice a n cap) n xs) (hk : ∀ k, (Value.slice a n cap).ownBlock = some k → w'.heap[k]? = w.heap[k]?) : w'.ownsRow 0 t size (.slice a n cap) n xs := by
  obtain ⟨h1, h2⟩ := h
  refine ⟨h1, ?_⟩
  rcases h2 with h2 | ⟨g, cap2, cur, e, hb, hg, rest⟩
  · exact Or.inl h2
  · exact Or.inr ⟨g, cap2, cur, e, hb, (hk g (by rw [e]; rfl)).trans hg, rest⟩
theorem grown_set (w : World) (g i : Nat) (v : Value) : w.grownBy (w.setCell ⟨g, i, none⟩ v) (some g) :=
  ⟨rfl, rfl, rfl, by simp [World.setCell], fun k _ hne => Below.heap_setCell _ _ _ _ (fun e => hne (by rw [e]))⟩

theorem ThI.ext {B P M : Nat} {fv : Value} {nm : List (ByteArray × Int)} {fs : List PFn} {w0 wr W : World} {col0 col : Nat → Nat} {stF st : WK} {stk : List OpN} {pa : Option Addr} {pc f : Nat} (h : ThI B P M fv nm fs w0 wr col0 col stF st stk pa pc f) (e : Ext wr W) : ThI B P M fv nm fs w0 W col0 col stF st stk pa pc f :=
  ⟨h.ws.ext e, h.wk.trans (Wk.ext e), own_keep h.own (fun k hk => e.block k (h.own.lt k hk).2), h.hue, h.nodes, h.eq, h.bd, h.len⟩

/-- The path over a call of the walk's. -/
theorem path_on {w6 w7 : World} {col col7 : Nat → Nat} {base : Nat} {a : Option Addr} {n cap : Nat} {xs : List Value} (ho : w6.ownsRow 0 150 2 (.slice a n cap) n xs) (hh : ∀ k, (Value.slice a n cap).ownBlock = some k → base ≤ k ∧ col k = 0) (k : Wk col col7 w6 w7) :
    w7.ownsRow 0 150 2 (.slice a n cap) n xs ∧ ∀ k, (Value.slice a n cap).ownBlock = some k → base ≤ k ∧ col7 k = 0 :=
  ⟨own_keep ho (fun i hi => k.keep i (ho.lt i hi).2 (hh i hi).2), fun i hi => ⟨(hh i hi).1, (k.same i (ho.lt i hi).2).trans (hh i hi).2⟩⟩

/-- One more part of the last node, which is open now. -/
theorem ThI.push {B P M : Nat} {fv : Value} {nm : List (ByteArray × Int)} {fs : List PFn} {w0 W2 w6 : World} {col0 col : Nat → Nat} {stF st : WK} {x y : OpN} {rest : List OpN} {g pc f : Nat} (h : ThI B P M fv nm fs w0 W2 col0 col stF st (x :: rest) (some ⟨g, 0, none⟩) pc f) {g' cap' : Nat}
    (ho : w6.ownsRow 0 150 2 (.slice (some ⟨g', 0, none⟩) (rest.length + 1 + 1) cap') (rest.length + 1 + 1) ((OpN.mk x.p (x.d + 1) x.b x.o :: rest).reverse.flatMap opC ++ opC y))
    (g1 : W2.grownBy w6 (some g)) (hw : some g = some g' ∨ W2.heap.size ≤ g') :
    WS w6 B P M fv col st ∧ Wk col0 col w0 w6 ∧ w6.ownsRow 0 150 2 (.slice (some ⟨g', 0, none⟩) (y :: OpN.mk x.p (x.d + 1) x.b x.o :: rest).length cap') (y :: OpN.mk x.p (x.d + 1) x.b x.o :: rest).length ((y :: OpN.mk x.p (x.d + 1) x.b x.o :: rest).reverse.flatMap opC) ∧
      ∀ k, (Value.slice (some ⟨g', 0, none⟩) (y :: OpN.mk x.p (x.d + 1) x.b x.o :: rest).length cap').ownBlock = some k → w0.heap.size ≤ k ∧ col k = 0 := by
  have hg := h.hue g rfl
  refine ⟨h.ws.path g1 (fun k e => by injection e with e; subst e; exact hg.2), h.wk.path g1 (fun k e => by injection e with e; subst e; exact hg.1), by rw [flat_last]; exact ho, fun k e => ?_⟩
  simp only [Value.ownBlock, Option.some.injEq] at e
  subst e
  rcases hw with e | e
  · injection e with e; subst e; exact hg
  · have := h.wk.size
    exact ⟨by omega, h.ws.fresh _ (by omega)⟩

theorem flat_set (x : OpN) (rest : List OpN) : ((x :: rest).reverse.flatMap opC).set (rest.length * 2 + 1) (.int .i64 ((x.d : Int) + 1)) = (OpN.mk x.p (x.d + 1) x.b x.o :: rest).reverse.flatMap opC := by
  rw [flat_last, flat_last, List.set_append, if_neg (by rw [flat_rlen]; omega), flat_rlen, Nat.add_sub_cancel_left]
  simp [opC]
theorem flat_take (x : OpN) (rest : List OpN) : ((x :: rest).reverse.flatMap opC).take (rest.length * 2) = rest.reverse.flatMap opC := by
  rw [flat_last, ← flat_rlen rest, List.take_left']
  rfl
theorem grown_heap {w W3 : World} {g i : Nat} {v : Value} (h : W3.heap = (w.setCell ⟨g, i, none⟩ v).heap) (h1 : W3.os = w.os) (h2 : W3.tape = w.tape) (h3 : W3.output = w.output) : w.grownBy W3 (some g) := by
  have hg := grown_set w g i v
  exact ⟨h1, h2, h3, by rw [h]; exact hg.size, fun k hk hne => by rw [h]; exact hg.block k hk hne⟩
theorem own_heap {w W : World} {t : TypeId} {size : Nat} {v : Value} {n : Nat} {xs : List Value} (h : w.ownsRow 0 t size v n xs) (e : W.heap = w.heap) : W.ownsRow 0 t size v n xs := by
  unfold World.ownsRow at h ⊢
  rw [e]
  exact h

end Go.Proofs.YtlgdjeiendmniaaGreatDoor

namespace Go.Proofs.YtlgdjeiendmniaaGreatDoor
open Go.RowKit Go.Maps

theorem WS.c8 {w : World} {B P M : Nat} {fv : Value} {col : Nat → Nat} {st : WK} (h : WS w B P M fv col st) : w.cell? ⟨B, 8, none⟩ = some (.int .i64 st.e) := by
  obtain ⟨lv, oa, ba, sa, ca, oc, bc, sc, cc, hB, hP, hm, h2, h3, h4, h5⟩ := h.ex
  exact rowC hB 8 rfl

/-- The last node that is open, read off the path. -/
theorem ThI.top {B P M : Nat} {fv : Value} {nm : List (ByteArray × Int)} {fs : List PFn} {w0 wr : World} {col0 col : Nat → Nat} {stF st : WK} {x : OpN} {rest : List OpN} {pa : Option Addr} {pc f : Nat} (h : ThI B P M fv nm fs w0 wr col0 col stF st (x :: rest) pa pc f) :
    ∃ g, pa = some ⟨g, 0, none⟩ ∧ rest.length + 1 ≤ pc ∧ wr.cell? ⟨g, rest.length * 2, none⟩ = some (.pointer (some ⟨x.b, x.o, none⟩)) ∧ wr.cell? ⟨g, rest.length * 2 + 1, none⟩ = some (.int .i64 (x.d : Int)) ∧ (∀ i, wr.frozen? ⟨g, i, none⟩ = false) ∧ g < wr.heap.size := by
  have ho := h.own
  obtain ⟨h1, ⟨e, h0⟩ | ⟨g, cap2, cur, e, hb, hg, hn, _⟩⟩ := id ho
  · simp at h0
  · injection e with e1 e2 e3
    subst e1 e3
    have hc := cells_own ho
    rw [flat_last] at hc
    have hl : (rest.reverse.flatMap opC).length = rest.length * 2 := flat_rlen rest
    refine ⟨g, rfl, hn, ?_, ?_, rowF hg, (Array.getElem?_eq_some_iff.1 hg).1⟩
    · have := hc (rest.length * 2) _ (by rw [List.getElem?_append_right (by omega), hl, Nat.sub_self]; rfl)
      rw [Nat.zero_add] at this
      exact this
    · have := hc (rest.length * 2 + 1) _ (by rw [List.getElem?_append_right (by omega), hl, Nat.add_sub_cancel_left]; rfl)
      rw [Nat.zero_add] at this
      exact this

set_option maxHeartbeats 2000000 in
theorem thr_w (B P M : Nat) (fv : Value) (col0 : Nat → Nat) (st0 : WK) (nm : List (ByteArray × Int)) (fs : List PFn) (p : PN) (nb no f n : Nat) (w : World) (stF : WK) (h : WS w B P M fv col0 st0) (hC : Ctx w col0 M fv nm fs) (hN : NodeAt w col0 p nb no) (hs : small p.s = true) (hb : Bd st0 n) (hn : n + f + 2 ≤ 9000000) (heq : thr nm fs f [(p, 0)] (st0.bgn p) = some stF) :
    Calls Tryz.prog 53 #[.pointer (some ⟨B, 0, none⟩), .pointer (some ⟨nb, no, none⟩)] w (Walks B P M fv col0 w stF) := by
  have HB := hide (fun ob => begin_w B P M fv col0 st0 p nb no n (w.alloc ob) (h.ext (Ext.alloc _ _)) (hN.on (Wk.ext (Ext.alloc _ _))) hs hb (by omega))
  have hfr := h.fresh w.heap.size (Nat.le_refl _)
  have HC := hide hC
  have HN := hide hN
  have HBD := hide (hb.bgn p)
  have HE := hide heq
  have HSM := hide hs
  obtain ⟨i0, hi, hz0, hz1, hz2⟩ := info_parts infoO
  have HI := hide hi
  have Z0 := hide hz0
  have Z1 := hide hz1
  have Z2 := hide hz2
  clear hi hz0 hz1 hz2 h hC hN hb heq hs
  go_enter Tryz.func53, Tryz.ntmps53
  go_wp2_with (go_at_call 83; refine Calls.mono (unhide HB _) ?_; rintro e w2 ⟨rfl, col2, a, b⟩; have A := hide a; have B2 := hide b; clear a b)
  have TI : Hd (ThI B P M fv nm fs w w2 col0 col2 stF (st0.bgn p) [OpN.mk p 0 nb no] (some ⟨w.heap.size, 0, none⟩) 1 f) := by
    have hk := (unhide B2).keep w.heap.size (by simp) hfr
    have hc2 := (unhide B2).same w.heap.size (by simp)
    refine ⟨unhide A, (Wk.ext (Ext.alloc _ _)).trans (unhide B2), ⟨rfl, Or.inr ⟨w.heap.size, 1, _, rfl, Nat.zero_le _, hk.trans (Go.heap_alloc_new w _), Nat.le_refl _, by decide, rfl, rfl⟩⟩, fun k e => ?_, fun x hx => ?_, unhide HE, ⟨n + 1, unhide HBD, by omega⟩, by simp; omega⟩
    · simp only [Value.ownBlock, Option.some.injEq] at e
      subst e
      exact ⟨Nat.le_refl _, hc2.trans hfr⟩
    · rw [List.mem_singleton.1 hx]
      exact ⟨unhide HN, unhide HSM, Nat.zero_le _, by show 0 + f ≤ _; omega⟩
  clear A B2 HB HE HBD
  go_wp2_with fail
  go_loopg [4] f (fun k t wr => ∃ (col : Nat → Nat) (st : WK) (stk : List OpN) (pa : Option Addr) (pc : Nat), t = .slice pa stk.length pc ∧ Hd (ThI B P M fv nm fs w wr col0 col stF st stk pa pc k))
  case atStart => exact ⟨col2, _, _, _, _, rfl, TI⟩
  case round =>
    clear TI
    obtain ⟨col, st, stk, pa, pc, rfl, hI⟩ := hrel
    cases gk with
    | zero => have := (unhide hI).eq; rw [thr] at this; cases this
    | succ f1 =>
    have c8 := (unhide hI).ws.c8
    cases stk with
    | nil =>
      have hF : Hd (stF = st) := by have := (unhide hI).eq; rw [List.map_nil, thr] at this; injection this with this; exact this.symm
      go_wp2_with fail
      go_end0
      rw [unhide hF]
      exact (unhide hI).ws.up (unhide hI).wk
    | cons x rest =>
      obtain ⟨g, rfl, hpc, q0, q1, qz, hgl⟩ := (unhide hI).top
      obtain ⟨hNd, hsx, hdl, hdf⟩ := (unhide hI).nodes x (List.mem_cons_self ..)
      have hlen := (unhide hI).len
      have hE := (unhide hI).eq
      rw [List.map_cons, show opP x = (x.p, x.d) from rfl, thr] at hE
      have hRl : (x :: rest).length = rest.length + 1 := rfl
      rw [hRl] at hlen ⊢
      obtain ⟨R, hR⟩ : ∃ R, R = rest.length := ⟨_, rfl⟩
      rw [← hR] at hpc q0 q1 hlen ⊢
      have HRl := hide hR
      clear hR hRl
      by_cases he : st.e = 0
      · have he2 : (st.e == 0) = true := by simp [he]
        rw [if_neg (by simp [he])] at hE
        have hNw := hNd.on (unhide hI).wk
        have hbdx := (unhide hI).bd
        obtain ⟨nn, hbn, hnn⟩ := hbdx
        have hCw := (unhide HC).on (unhide hI).wk
        have D := hide (show Ext wr wr.drew from Ext.drew (Ext.refl _))
        by_cases hd : x.d = x.p.l.length
        · rw [if_pos hd] at hE
          cases hfin : st.fin nm fs x.p with
          | none => rw [hfin] at hE; cases hE
          | some st2 =>
          rw [hfin] at hE
          simp only at hE
          have HEnd := hide (end_w B P M fv col st nm fs x.p x.b x.o nn wr.drew st2 ((unhide hI).ws.ext (unhide D)) (hCw.on (Wk.ext (unhide D))) (hNw.on (Wk.ext (unhide D))) hsx hbn (by omega) hfin)
          have HB2 := hide (hbn.fin hsx hfin)
          obtain ⟨na, ncap, n0, n2, n4, -, -⟩ := hNw.ex
          have hdd : ((x.d : Int) == (x.p.l.length : Int)) = true := by simp [hd]
          have HE := hide hE
          clear hNw hNd hfin hE hCw hd hdl he n0 n2
          have HX := hide (show x = x from rfl)
          obtain ⟨xp, xd, xb, xo⟩ := x
          simp only at q0 q1 n4 hdd
          generalize xp.l.length = XL at *
          go_wp2_with fail
          refine wp_nrm ?_
          first | skip; go_region | fail
          all_goals
            simp only [Nrm]
            go_wp2_with (go_at_call 84; refine Calls.mono (unhide HEnd) ?_; rintro e w1 ⟨rfl, col1, a, b⟩; have A := hide a; have B2 := hide b; clear a b)
            go_roundg f1
            case measure => omega
            case rel =>
              have hT := (unhide hI).ext (unhide D)
              have hR := unhide HRl
              have ho := own_prefix (m := rest.length) hT.own (by simp)
              rw [flat_take] at ho
              obtain ⟨o1, o2⟩ := path_on (base := w.heap.size) ho (fun k e => hT.hue k e) (unhide B2)
              refine ⟨col1, st2, rest, _, _, by rw [hR], ⟨unhide A, hT.wk.trans (unhide B2), o1, o2, fun y hy => ?_, unhide HE, ⟨nn + 1, unhide HB2, by omega⟩, by omega⟩⟩
              obtain ⟨y1, y2, y3, y4⟩ := (unhide hI).nodes y (List.mem_cons_of_mem _ hy)
              exact ⟨y1, y2, y3, by omega⟩
        · rw [if_neg hd] at hE
          cases hq : x.p.l[x.d]? with
          | none => rw [hq] at hE; cases hE
          | some q =>
          rw [hq] at hE
          simp only at hE
          cases hsq : small q.s with
          | false => rw [hsq] at hE; cases hE
          | true =>
          rw [hsq, if_pos rfl] at hE
          obtain ⟨cb, co, ccap, n4w, hcc, hNq⟩ := hNd.child hq
          have n4 : wr.cell? ⟨x.b, x.o + 4, none⟩ = some (.slice (some ⟨cb, co, none⟩) x.p.l.length ccap) := by rw [World.cell?_of_block (w := w) ((unhide hI).wk.keep x.b hNd.lt hNd.hue)]; exact n4w
          have hdlt : x.d < x.p.l.length := by omega
          have hdd : ((x.d : Int) == (x.p.l.length : Int)) = false := by rw [beq_eq_false_iff_ne]; omega
          have HNq := hide hNq
          have HE := hide hE
          have HO : Hd (∀ (W3 : World) (ob : Obj), W3.heap = (wr.setCell ⟨g, R * 2 + 1, none⟩ (.int .i64 ((x.d : Int) + 1))).heap → (W3.alloc ob).ownsRow 0 150 2 (.slice (some ⟨g, 0, none⟩) (R + 1) pc) (R + 1) ((OpN.mk x.p (x.d + 1) x.b x.o :: rest).reverse.flatMap opC)) := by
            intro W3 ob e
            have ho := own_setS (unhide hI).own (rest.length * 2 + 1) (.int .i64 ((x.d : Int) + 1))
            rw [flat_set] at ho
            rw [unhide HRl] at e ⊢
            exact (own_heap ho e).alloc ob
          have HP : Hd (∀ (w6 : World) (g' cap' : Nat), w6.ownsRow 0 150 2 (.slice (some ⟨g', 0, none⟩) (R + 1 + 1) cap') (R + 1 + 1) ((OpN.mk x.p (x.d + 1) x.b x.o :: rest).reverse.flatMap opC ++ [.pointer (some ⟨cb, co + x.d * 5, none⟩), .int .i64 0]) → wr.grownBy w6 (some g) → (some g = some g' ∨ wr.heap.size ≤ g') → _) := fun w6 g' cap' ho g1 hw => (unhide hI).push (y := OpN.mk q 0 cb (co + x.d * 5)) (by rw [← unhide HRl]; exact ho) g1 hw
          have hbq := hide hbn
          have BG := hide (fun (w6 : World) (hw : WS w6 B P M fv col st) (hk : Wk col0 col w w6) => begin_w B P M fv col st q cb (co + x.d * 5) nn w6 hw ((unhide HNq).on hk) hsq (unhide hbq) (by omega))
          have HB2 := hide (hbn.bgn q)
          clear hNw hNd hE hCw hd hdl he n4w hNq hq hsx
          obtain ⟨xp, xd, xb, xo⟩ := x
          simp only at q0 q1 n4 hdd hdlt HO HP BG hdf
          have hdlt2 : xd + 1 ≤ xp.l.length := hdlt
          have HDL := hide hdlt2
          clear hdlt2
          obtain ⟨XL, hXL⟩ : ∃ XL, XL = xp.l.length := ⟨_, rfl⟩
          rw [← hXL] at n4 hdd hdlt hcc
          have hdn1 : ¬ ((xd : Int) = (XL : Int)) := by omega
          have hdn2 : ¬ xd = XL := by omega
          have hdn3 : (xd == XL) = false := by rw [beq_eq_false_iff_ne]; exact hdn2
          clear hXL
          go_wp2_with fail
          refine wp_nrm ?_
          first | skip; go_region | fail
          all_goals
            simp only [Nrm]
            go_wp2_with fail
            refine wp_nrm ?_
            first | skip; go_region | fail
            all_goals
              simp only [Nrm]
              go_wp2_with (first
                | (at_builtin; refine wpList_append_where rfl (.tmp 71) (.tmp 74) 151 rfl 0 150 i0 (.agg #[.pointer none, .int .i64 0]) 2 16 Tryz.underlying151 (unhide HI) (unhide Z0) (unhide Z1) (unhide Z2) rfl (by decide) (some ⟨g, 0, none⟩) (R + 1) pc _ rfl (unhide HO _ _ ?o1) ⟨wr.heap.size, 0, none⟩ 1 1 [.pointer (some ⟨cb, co + xd * 5, none⟩), .int .i64 0] rfl (by decide) rfl ?o2 (one_open _ _) ?c1 ?c2 (Nat.zero_le _) ?_))
              case o1 => rfl
              case o2 =>
                intro j u hu
                have hz : (wr.setCell ⟨g, R * 2 + 1, none⟩ (.int .i64 ((xd : Int) + 1))).heap.size = wr.heap.size := by simp [World.setCell]
                have h := cells_new (wr.setCell ⟨g, R * 2 + 1, none⟩ (.int .i64 ((xd : Int) + 1))) #[.pointer (some ⟨cb, co + xd * 5, none⟩), .int .i64 0] 150 j u hu
                rw [hz] at h
                exact h
              case c1 => unfold maxLen; omega
              case c2 => omega
              intro g' cap' w6 ho6 hg6 hw6
              have hg1 : wr.grownBy w6 (some g) := ((grown_set wr g (R * 2 + 1) (.int .i64 ((xd : Int) + 1))).trans (World.grownBy_alloc _ (.cells #[.pointer (some ⟨cb, co + xd * 5, none⟩), .int .i64 0] 150) _)).trans ⟨hg6.os, hg6.tape, hg6.output, hg6.size, hg6.block⟩
              obtain ⟨p1, p2, p3, p4⟩ := unhide HP w6 g' cap' (by rw [flat_last, List.append_assoc]; exact ho6) hg1 (hw6.imp (fun e => e) (fun e => by first | omega | (simp at e; omega)))
              have P1 := hide p1
              have P2 := hide p2
              have P3 := hide p3
              have P4 := hide p4
              clear p1 p2 p3 p4 ho6 hg6 hw6 hg1
              go_wp2_with (go_at_call 83; refine Calls.mono (unhide BG w6 (unhide P1) (unhide P2)) ?_; rintro e w7 ⟨rfl, col7, a, b⟩; have A := hide a; have B2 := hide b; clear a b)
              go_roundg f1
              case measure => omega
              case rel =>
                obtain ⟨o1, o2⟩ := path_on (base := w.heap.size) (unhide P3) (unhide P4) (unhide B2)
                have hR := unhide HRl
                refine ⟨col7, st.bgn q, _, _, _, by rw [hR]; rfl, ⟨unhide A, (unhide P2).trans (unhide B2), o1, o2, fun y hy => ?_, unhide HE, ⟨nn + 1, unhide HB2, by omega⟩, by simp; omega⟩⟩
                rcases List.mem_cons.1 hy with rfl | hy
                · exact ⟨unhide HNq, hsq, Nat.zero_le _, by show 0 + f1 ≤ _; omega⟩
                rcases List.mem_cons.1 hy with rfl | hy
                · obtain ⟨y1, y2, y3, y4⟩ := (unhide hI).nodes (OpN.mk xp xd xb xo) (List.mem_cons_self ..)
                  exact ⟨y1, y2, unhide HDL, by show xd + 1 + f1 ≤ _; omega⟩
                · obtain ⟨y1, y2, y3, y4⟩ := (unhide hI).nodes y (List.mem_cons_of_mem _ hy)
                  exact ⟨y1, y2, y3, by omega⟩
      · have he2 : (st.e == 0) = false := by simpa using he
        rw [if_pos he] at hE
        have hF : Hd (stF = st) := by injection hE with hE; exact hE.symm
        clear hE he hNd
        go_wp2_with fail
        go_end0
        rw [unhide hF]
        exact (unhide hI).ws.up (unhide hI).wk

end Go.Proofs.YtlgdjeiendmniaaGreatDoor

namespace Go.Proofs.YtlgdjeiendmniaaGreatDoor
open Go.RowKit Go.Maps

theorem repS_at {w : World} {F : Nat → Prop} {ps : List ByteArray} {a : Option Addr} {j : Nat} {x : ByteArray} (h : RepS w F ps a) (hx : ps[j]? = some x) : ∃ b off, a = some ⟨b, off, none⟩ ∧ F b ∧ w.cell? ⟨b, off + j, none⟩ = some (.string x) := by
  rcases h with rfl | ⟨b, off, rfl, hb, hc⟩
  · simp at hx
  · exact ⟨b, off, rfl, hb, hc j _ (by rw [List.getElem?_map, hx]; rfl)⟩

set_option maxHeartbeats 1000000 in
theorem prm_w (B P M : Nat) (fv : Value) (col0 : Nat → Nat) (st0 : WK) (ps : List ByteArray) (a : Option Addr) (cap n : Nat) (w : World) (h : WS w B P M fv col0 st0) (hr : RepS w (fun k => col0 k = 0 ∧ k < w.heap.size) ps a) (hcap : ps.length ≤ cap) (hsm : ∀ x ∈ ps, small x = true) (hb : Bd st0 n) (hn : n + ps.length ≤ 9000000) :
    Calls Tryz.prog 52 #[.pointer (some ⟨B, 0, none⟩), .slice a ps.length cap] w (Walks B P M fv col0 w (prm ps st0)) := by
  have HR := hide hr
  have HSM := hide hsm
  have TI : Hd (WS w B P M fv col0 st0 ∧ Wk col0 col0 w w ∧ prm (ps.drop 0) st0 = prm ps st0 ∧ Bd st0 (n + 0)) := ⟨h, Wk.refl _ _, by rw [List.drop_zero], hb⟩
  clear h hr hb hsm
  go_enter Tryz.func52, Tryz.ntmps52
  go_wp2_with fail
  go_loopw [4] (fun t wr => ∃ (j : Nat) (col : Nat → Nat) (st : WK), t = .int .i64 j ∧ j ≤ ps.length ∧ Hd (WS wr B P M fv col st ∧ Wk col0 col w wr ∧ prm (ps.drop j) st = prm ps st0 ∧ Bd st (n + j))) (fun t _ => ps.length - (intOf t).toNat)
  case atStart => exact ⟨0, col0, st0, rfl, Nat.zero_le _, TI⟩
  case round =>
    clear TI
    obtain ⟨j, col, st, rfl, hj, hI⟩ := hrel
    have c8 := (unhide hI).1.c8
    by_cases hlt : j < ps.length
    · obtain ⟨x, hx⟩ : ∃ x, ps[j]? = some x := ⟨_, List.getElem?_eq_getElem hlt⟩
      have hdr : ps.drop j = x :: ps.drop (j + 1) := by rw [List.drop_eq_getElem_cons hlt, (List.getElem?_eq_some_iff.1 hx).2]
      have hq := (unhide hI).2.2.1
      rw [hdr, prm] at hq
      by_cases he : st.e = 0
      · have he2 : (st.e == 0) = true := by simp [he]
        rw [if_neg (by simp [he])] at hq
        obtain ⟨b, off, rfl, hbb, hc⟩ := repS_at (unhide HR) hx
        have cx : wr.cell? ⟨b, off + j, none⟩ = some (.string x) := by rw [World.cell?_of_block (w := w) ((unhide hI).2.1.keep b hbb.2 hbb.1)]; exact hc
        have hsx := unhide HSM x (List.mem_of_getElem? hx)
        have hbd := (unhide hI).2.2.2
        have HD := hide (declare_w B P M fv col st x wr (unhide hI).1 hsx hbd.lc (by have := hbd.ct; omega) (by have := hbd.od; omega))
        have HB2 := hide (hbd.declare hsx)
        have HQ := hide hq
        clear hq hx hdr he hbb hc hbd
        go_wp2_with (go_at_call 82; refine Calls.mono (unhide HD) ?_; rintro e w1 ⟨rfl, col1, a, b⟩; have A := hide a; have B2 := hide b; clear a b)
        go_roundw
        case rel => exact ⟨j + 1, col1, _, by go_num, by omega, ⟨unhide A, (unhide hI).2.1.trans (unhide B2), unhide HQ, unhide HB2⟩⟩
        case measure => simp [intOf]; omega
      · have he2 : (st.e == 0) = false := by simpa using he
        rw [if_pos he] at hq
        have HQ := hide hq
        clear hq hx hdr he
        go_wp2_with fail
        go_end0
        rw [← unhide HQ]
        exact (unhide hI).1.up (unhide hI).2.1
    · have hq := (unhide hI).2.2.1
      rw [List.drop_eq_nil_of_le (by omega), prm] at hq
      have HQ := hide hq
      clear hq
      have hjl : ¬ ((j : Int) < (ps.length : Int)) := by omega
      go_wp2_with fail
      go_end0
      rw [← unhide HQ]
      exact (unhide hI).1.up (unhide hI).2.1

end Go.Proofs.YtlgdjeiendmniaaGreatDoor

namespace Go.Proofs.YtlgdjeiendmniaaGreatDoor
open Go.RowKit Go.Maps

/-- The program's block alone has a colour. -/
def colP (P : Nat) : Nat → Nat := fun k => if k = P then 7 else 0
theorem colP_ne {P k : Nat} (h : colP P k = 0) : k ≠ P := by
  intro e
  unfold colP at h
  rw [if_pos e] at h
  cases h
theorem colP_of {P k : Nat} (h : k ≠ P) : colP P k = 0 := by unfold colP; rw [if_neg h]

/-- A row of numbers that the call has made. -/
def IntsAt (w : World) (base : Nat) (a : Option Addr) (l : List Int) : Prop := l = [] ∨ ∃ b, a = some ⟨b, 0, none⟩ ∧ base ≤ b ∧ b < w.heap.size ∧ ∀ j x, l[j]? = some x → w.cell? ⟨b, j, none⟩ = some (.int .i64 x)

theorem RowAt.ints {w : World} {col : Nat → Nat} {c base : Nat} {a : Option Addr} {cap : Nat} {l : List Int} (h : RowAt w col c 3 a cap (nms l)) (hc : ∀ k, col k = c → base ≤ k) : l.length ≤ cap ∧ IntsAt w base a l := by
  have ho := h.own
  have hue := h.hue
  have e0 : (nms l).length = l.length := List.length_map _
  rw [e0] at ho hue
  obtain ⟨hlen, ⟨e, h0⟩ | ⟨b, cap2, cur, e, hb, hrow, hcp, _⟩⟩ := id ho
  · have : l = [] := List.length_eq_zero_iff.1 h0
    subst this
    exact ⟨Nat.zero_le _, Or.inl rfl⟩
  · injection e with e1 e2 e3
    subst e1 e3
    refine ⟨hcp, Or.inr ⟨b, rfl, hc b (hue b rfl), (Array.getElem?_eq_some_iff.1 hrow).1, fun j x hx => ?_⟩⟩
    have := cells_own ho j (.int .i64 x) (by rw [List.getElem?_map, hx]; rfl)
    rw [Nat.zero_add] at this
    exact this
theorem IntsAt.keep {w w' : World} {base base' : Nat} {a : Option Addr} {l : List Int} (h : IntsAt w base a l) (hz : w.heap.size ≤ w'.heap.size) (hb : base' ≤ base) (hk : ∀ k, base ≤ k → k < w.heap.size → w'.heap[k]? = w.heap[k]?) : IntsAt w' base' a l := by
  rcases h with h | ⟨b, e, h1, h2, h3⟩
  · exact Or.inl h
  · exact Or.inr ⟨b, e, by omega, by omega, fun j x hx => by rw [World.cell?_of_block (w := w) (hk b h1 h2)]; exact h3 j x hx⟩

abbrev scV (lc : Int) (sa : Option Addr) (sn sc : Nat) (ca : Option Addr) (cn cc : Nat) : Value := .agg #[.int .i64 lc, .slice sa sn sc, .slice ca cn cc]

/-- What a function's call answers. -/
def FnIs (P M : Nat) (fv : Value) (w : World) (st : WK) (e : Ending) (w' : World) : Prop :=
  ∃ sa sc ca cc, e = .returned (.tuple #[scV st.lc sa st.sl.length sc ca st.cl.length cc, .int .i64 st.e]) ∧ w'.heap[P]? = some (pgO fv M st.sp) ∧ Wk (colP P) (colP P) w w' ∧ st.sl.length ≤ sc ∧ IntsAt w' w.heap.size sa st.sl ∧ st.cl.length ≤ cc ∧ IntsAt w' w.heap.size ca st.cl

theorem fn_shut {P M : Nat} {fv : Value} {w w3 : World} {col : Nat → Nat} {st : WK} {lv : Option Nat} {oa ba sa ca : Option Addr} {oc bc sc cc : Nat} (lP : P < w.heap.size) (h : WS w3 (w.heap.size + 1) P M fv col st) (hk : Wk (colP P) col w w3) (hc0 : col w.heap.size = 0) (hP : w3.heap[P]? = some (pgO fv M st.sp)) (h4 : RowAt w3 col 4 3 sa sc (nms st.sl)) (h5 : RowAt w3 col 5 3 ca cc (nms st.cl)) (hl : w.heap.size < w3.heap.size) :
    FnIs P M fv w st (.returned (.tuple #[scV st.lc sa st.sl.length sc ca st.cl.length cc, .int .i64 st.e])) ((((w3.setCell ⟨w.heap.size, 0, none⟩ (.int .i64 st.lc)).setCell ⟨w.heap.size, 1, none⟩ (.slice sa st.sl.length sc)).setCell ⟨w.heap.size, 2, none⟩ (.slice ca st.cl.length cc)).drew) := by
  have hcol : ∀ c, c ≠ 0 → c ≠ 7 → ∀ k, col k = c → w.heap.size + 1 ≤ k := fun c h0 h7 k hc => by
    rcases Nat.lt_or_ge k w.heap.size with h | h
    · rw [hk.same k h] at hc
      unfold colP at hc
      split at hc <;> omega
    · rcases Nat.lt_or_ge w.heap.size k with h2 | h2
      · exact h2
      · have : k = w.heap.size := by omega
        rw [this, hc0] at hc
        omega
  obtain ⟨l4, i4⟩ := h4.ints (base := w.heap.size + 1) (hcol 4 (by decide) (by decide))
  obtain ⟨l5, i5⟩ := h5.ints (base := w.heap.size + 1) (hcol 5 (by decide) (by decide))
  have hz : ((((w3.setCell ⟨w.heap.size, 0, none⟩ (.int .i64 st.lc)).setCell ⟨w.heap.size, 1, none⟩ (.slice sa st.sl.length sc)).setCell ⟨w.heap.size, 2, none⟩ (.slice ca st.cl.length cc)).drew).heap.size = w3.heap.size := by simp [World.setCell]
  have hb : ∀ k, k ≠ w.heap.size → ((((w3.setCell ⟨w.heap.size, 0, none⟩ (.int .i64 st.lc)).setCell ⟨w.heap.size, 1, none⟩ (.slice sa st.sl.length sc)).setCell ⟨w.heap.size, 2, none⟩ (.slice ca st.cl.length cc)).drew).heap[k]? = w3.heap[k]? := fun k hk => (Below.heap_setCell _ _ _ _ hk).trans ((Below.heap_setCell _ _ _ _ hk).trans (Below.heap_setCell _ _ _ _ hk))
  have xo : ((((w3.setCell ⟨w.heap.size, 0, none⟩ (.int .i64 st.lc)).setCell ⟨w.heap.size, 1, none⟩ (.slice sa st.sl.length sc)).setCell ⟨w.heap.size, 2, none⟩ (.slice ca st.cl.length cc)).drew).os = w.os := hk.os
  have xt : ((((w3.setCell ⟨w.heap.size, 0, none⟩ (.int .i64 st.lc)).setCell ⟨w.heap.size, 1, none⟩ (.slice sa st.sl.length sc)).setCell ⟨w.heap.size, 2, none⟩ (.slice ca st.cl.length cc)).drew).tape = w.tape := hk.tape
  have xu : ((((w3.setCell ⟨w.heap.size, 0, none⟩ (.int .i64 st.lc)).setCell ⟨w.heap.size, 1, none⟩ (.slice sa st.sl.length sc)).setCell ⟨w.heap.size, 2, none⟩ (.slice ca st.cl.length cc)).drew).output = w.output := hk.output
  generalize (((w3.setCell ⟨w.heap.size, 0, none⟩ (.int .i64 st.lc)).setCell ⟨w.heap.size, 1, none⟩ (.slice sa st.sl.length sc)).setCell ⟨w.heap.size, 2, none⟩ (.slice ca st.cl.length cc)).drew = W at *
  exact ⟨sa, sc, ca, cc, rfl, (hb P (by omega)).trans hP, ⟨xo, xt, xu, by omega, fun _ _ => rfl, fun k h1 h0 => (hb k (by omega)).trans (hk.keep k h1 h0)⟩, l4, i4.keep (by omega) (by omega) (fun k h1 _ => hb k (by omega)), l5, i5.keep (by omega) (by omega) (fun k h1 _ => hb k (by omega))⟩

set_option maxHeartbeats 2000000 in
theorem fn_w (P M : Nat) (fv : Value) (sp : Int) (nm : List (ByteArray × Int)) (fs : List PFn) (p : PFn) (fb fo f : Nat) (pa : Option Addr) (pc : Nat) (w : World) (st : WK) (hP : w.heap[P]? = some (pgO fv M sp)) (hC : Ctx w (colP P) M fv nm fs) (h1 : w.cell? ⟨fb, fo + 1, none⟩ = some (.slice pa p.ps.length pc)) (hpc : p.ps.length ≤ pc) (hr : RepS w (fun k => colP P k = 0 ∧ k < w.heap.size) p.ps pa) (hN : NodeAt w (colP P) p.bd fb (fo + 2)) (hf : p.ps.length + f + 3 ≤ 9000000) (hq : fnW nm fs f sp p = some st) :
    Calls Tryz.prog 28 #[.pointer (some ⟨P, 0, none⟩), .pointer (some ⟨fb, fo, none⟩)] w (FnIs P M fv w st) := by
  have lP := (Array.getElem?_eq_some_iff.1 hP).1
  unfold fnW at hq
  cases hsm : (small p.bd.s && p.ps.all small) with
  | false => rw [hsm] at hq; cases hq
  | true =>
  rw [hsm, if_pos rfl] at hq
  rw [Bool.and_eq_true] at hsm
  obtain ⟨hs1, hs2⟩ := hsm
  cases hth : thr nm fs f [(p.bd, 0)] ((prm p.ps (wkZ sp)).bgn p.bd) with
  | none => rw [hth] at hq; cases hq
  | some stF =>
  rw [hth] at hq
  simp only at hq
  injection hq with hq
  obtain ⟨ob, hob⟩ : ∃ ob : Obj, ob = .cells #[.int .i64 0, .slice none 0 0, .slice none 0 0] 64 (0, 0) := ⟨_, rfl⟩
  have HW : Hd (WS ((w.alloc ob).alloc (wkO P none none 0 0 none 0 0 0 0 none 0 0 none 0 0 0)) (w.heap.size + 1) P M fv (hued (colP P) (w.heap.size + 1) 6) (wkZ sp) ∧ Wk (colP P) (hued (colP P) (w.heap.size + 1) 6) w ((w.alloc ob).alloc (wkO P none none 0 0 none 0 0 0 0 none 0 0 none 0 0 0))) := by
    have hX : Ext w ((w.alloc ob).alloc (wkO P none none 0 0 none 0 0 0 0 none 0 0 none 0 0 0)) := (Ext.alloc _ _).trans (Ext.alloc _ _)
    have hz : ((w.alloc ob).alloc (wkO P none none 0 0 none 0 0 0 0 none 0 0 none 0 0 0)).heap.size = w.heap.size + 2 := by rw [size_alloc, size_alloc]
    have hb := Go.heap_alloc_new (w.alloc ob) (wkO P none none 0 0 none 0 0 0 0 none 0 0 none 0 0 0)
    rw [size_alloc] at hb
    have hc : ∀ k, k < w.heap.size → hued (colP P) (w.heap.size + 1) 6 k = colP P k := fun k hk => by unfold hued; rw [if_neg (by omega)]
    refine ⟨⟨fun k hk => ?_, by unfold hued; rw [if_pos rfl], (hc P lP).trans (by unfold colP; rw [if_pos rfl]), none, none, none, none, none, 0, 0, 0, 0, hb, hX.row hP, Or.inl ⟨rfl, rfl⟩, ⟨World.ownsRow_nil _ _ _ _, fun k e => by cases e⟩, ⟨World.ownsRow_nil _ _ _ _, fun k e => by cases e⟩, ⟨World.ownsRow_nil _ _ _ _, fun k e => by cases e⟩, ⟨World.ownsRow_nil _ _ _ _, fun k e => by cases e⟩⟩, ⟨hX.os, hX.tape, hX.output, hX.size, hc, fun k hk _ => hX.block k hk⟩⟩
    unfold hued colP
    rw [if_neg (by omega), if_neg (by omega)]
  rw [hob] at HW
  have hz0 : Bd (wkZ sp) 0 := ⟨by show (Lit.int .i64 0).wf = true; decide, Nat.le_refl _, Nat.le_refl _, Nat.le_refl _, Nat.le_refl _, Nat.le_refl _, fun x hx => by cases hx⟩
  have hbp : ∀ (ps : List ByteArray) (s : WK) (n : Nat), (∀ x ∈ ps, small x = true) → Bd s n → Bd (prm ps s) (n + ps.length) := by
    intro ps
    induction ps with
    | nil => intro s n _ hb; exact hb
    | cons x r ih =>
      intro s n hx hb
      rw [prm]
      split
      · exact hb.mono (by simp)
      · have := ih (s.declare x) (n + 1) (fun y hy => hx y (List.mem_cons_of_mem _ hy)) (hb.declare (hx x (List.mem_cons_self ..)))
        refine this.mono (by simp; omega)
  have hsps : ∀ x ∈ p.ps, small x = true := fun x hx => List.all_eq_true.1 hs2 x hx
  have HPM := hide (prm_w (w.heap.size + 1) P M fv _ (wkZ sp) p.ps pa pc 0 _ (unhide HW).1 (hr.to (fun k hk => ⟨⟨((unhide HW).2.same k hk.2).trans hk.1, Nat.lt_of_lt_of_le hk.2 (unhide HW).2.size⟩, (unhide HW).2.keep k hk.2 hk.1⟩)) hpc hsps hz0 (by omega))
  have HBD := hide (hbp p.ps (wkZ sp) 0 hsps hz0)
  have HTH := hide (fun (W : World) (col : Nat → Nat) (hw : WS W (w.heap.size + 1) P M fv col (prm p.ps (wkZ sp))) (hk : Wk (colP P) col w W) => thr_w (w.heap.size + 1) P M fv col (prm p.ps (wkZ sp)) nm fs p.bd fb (fo + 2) f (0 + p.ps.length) W stF hw (hC.on hk) (hN.on hk) hs1 (unhide HBD) (by omega) hth)
  have hfl : fb < w.heap.size := hN.lt
  have HQ := hide hq
  have HW2 := hide (unhide HW).2
  have HC0 : Hd (hued (colP P) (w.heap.size + 1) 6 w.heap.size = 0) := by unfold Hd hued colP; rw [if_neg (by omega), if_neg (by omega)]
  clear hP hC hr hN hth hq hs1 hs2 hsps hbp hz0 HW hob
  by_cases hgt : 64 < stF.lc
  · have HQ : Hd (stF.fail 65 = st) := by have h0 := unhide HQ; rw [if_pos hgt] at h0; exact h0
    go_enter Tryz.func28, Tryz.ntmps28
    go_wp2_with (first
      | (go_at_call 52; refine Calls.mono (unhide HPM) ?_; rintro e w1 ⟨rfl, col1, a, b⟩; have A1 := hide a; have B1 := hide ((unhide HW2).trans b); have O1 := hide (b.keep w.heap.size (by rw [size_alloc, size_alloc]; omega) (unhide HC0)); have K1 := hide (b.same w.heap.size (by rw [size_alloc, size_alloc]; omega)); have Z1 := hide b.size; clear a b)
      | (go_at_call 53; refine Calls.mono (unhide HTH w1 col1 (unhide A1) (unhide B1)) ?_; rintro e w2 ⟨rfl, col2, a, b⟩; have q5 := a.c5.1; have A2 := hide a; have B2 := hide ((unhide B1).trans b); have Z2 := hide (Nat.lt_of_lt_of_le (show w.heap.size < w1.heap.size by have h0 := unhide Z1; rw [size_alloc, size_alloc] at h0; omega) b.size); have K2 := hide ((b.same w.heap.size (by have h0 := unhide Z1; rw [size_alloc, size_alloc] at h0; omega)).trans ((unhide K1).trans (unhide HC0))); have O2 := hide ((b.keep w.heap.size (by have h0 := unhide Z1; rw [size_alloc, size_alloc] at h0; omega) ((unhide K1).trans (unhide HC0))).trans (unhide O1)); clear a b)
      | (go_at_call 54; refine Calls.mono (fail_w _ _ _ _ _ stF 65 w2 (unhide A2)) ?_; rintro e w3 ⟨rfl, col3, a, b⟩; have AX := hide a; have BX := hide ((unhide B2).trans b); have ZX := hide (Nat.lt_of_lt_of_le (unhide Z2) b.size); have KX := hide ((b.same w.heap.size (unhide Z2)).trans (unhide K2)); have OX := hide ((b.keep w.heap.size (unhide Z2) (unhide K2)).trans (unhide O2)); clear a b))
    obtain ⟨lv, oa, ba, sa, ca, oc, bc, sc, cc, hB, hP, hm, h2, h3, h4, h5⟩ := id (unhide AX).ex
    have b5 := rowC hB 5 rfl
    have b6 := rowC hB 6 rfl
    have b7 := rowC hB 7 rfl
    have b8 := rowC hB 8 rfl
    have RR := unhide OX
    rw [(Ext.alloc _ _).block w.heap.size (by rw [size_alloc]; omega), Go.heap_alloc_new w _] at RR
    have r0 := rowC RR 0 rfl
    have r1 := rowC RR 1 rfl
    have r2 := rowC RR 2 rfl
    have rz := rowF RR
    have FS := hide (fn_shut (lv := lv) (oa := oa) (ba := ba) (oc := oc) (bc := bc) lP (unhide AX) (unhide BX) (unhide KX) hP h4 h5 (unhide ZX))
    clear hB hP hm h2 h3 h4 h5
    refine wp_nrm ?_
    first | skip; go_region | fail
    all_goals
      simp only [Nrm]
      go_wp2_with fail
      rw [← unhide HQ]
      exact bodyPost_ret (v := _) (by simp [results, Tryz.results28, go_sem, r0, r1, r2, rz]) rfl (unhide FS)
  · have HQ : Hd (stF = st) := by have h0 := unhide HQ; rw [if_neg hgt] at h0; exact h0
    go_enter Tryz.func28, Tryz.ntmps28
    go_wp2_with (first
      | (go_at_call 52; refine Calls.mono (unhide HPM) ?_; rintro e w1 ⟨rfl, col1, a, b⟩; have A1 := hide a; have B1 := hide ((unhide HW2).trans b); have O1 := hide (b.keep w.heap.size (by rw [size_alloc, size_alloc]; omega) (unhide HC0)); have K1 := hide (b.same w.heap.size (by rw [size_alloc, size_alloc]; omega)); have Z1 := hide b.size; clear a b)
      | (go_at_call 53; refine Calls.mono (unhide HTH w1 col1 (unhide A1) (unhide B1)) ?_; rintro e w2 ⟨rfl, col2, a, b⟩; have q5 := a.c5.1; have A2 := hide a; have B2 := hide ((unhide B1).trans b); have Z2 := hide (Nat.lt_of_lt_of_le (show w.heap.size < w1.heap.size by have h0 := unhide Z1; rw [size_alloc, size_alloc] at h0; omega) b.size); have K2 := hide ((b.same w.heap.size (by have h0 := unhide Z1; rw [size_alloc, size_alloc] at h0; omega)).trans ((unhide K1).trans (unhide HC0))); have O2 := hide ((b.keep w.heap.size (by have h0 := unhide Z1; rw [size_alloc, size_alloc] at h0; omega) ((unhide K1).trans (unhide HC0))).trans (unhide O1)); clear a b))
    have AX := A2
    have BX := B2
    have ZX := Z2
    have KX := K2
    have OX := O2
    obtain ⟨lv, oa, ba, sa, ca, oc, bc, sc, cc, hB, hP, hm, h2, h3, h4, h5⟩ := id (unhide AX).ex
    have b5 := rowC hB 5 rfl
    have b6 := rowC hB 6 rfl
    have b7 := rowC hB 7 rfl
    have b8 := rowC hB 8 rfl
    have RR := unhide OX
    rw [(Ext.alloc _ _).block w.heap.size (by rw [size_alloc]; omega), Go.heap_alloc_new w _] at RR
    have r0 := rowC RR 0 rfl
    have r1 := rowC RR 1 rfl
    have r2 := rowC RR 2 rfl
    have rz := rowF RR
    have FS := hide (fn_shut (lv := lv) (oa := oa) (ba := ba) (oc := oc) (bc := bc) lP (unhide AX) (unhide BX) (unhide KX) hP h4 h5 (unhide ZX))
    clear hB hP hm h2 h3 h4 h5
    refine wp_nrm ?_
    first | skip; go_region | fail
    all_goals
      simp only [Nrm]
      go_wp2_with fail
      rw [← unhide HQ]
      exact bodyPost_ret (v := _) (by simp [results, Tryz.results28, go_sem, r0, r1, r2, rz]) rfl (unhide FS)

end Go.Proofs.YtlgdjeiendmniaaGreatDoor
