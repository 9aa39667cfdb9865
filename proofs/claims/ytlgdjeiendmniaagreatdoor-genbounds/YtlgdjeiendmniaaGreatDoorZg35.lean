/- A law of no program: a region that draws its order, by what holds behind each set of operations that have come up. · A law of no program: a region that draws its order, whose operations are quiet in a class of worlds but for the last, which waits for all others. · The maker: a function. · Whether a tree can be laid: its nodes have their parts. -/
import Derived.Orders
import Derived.Scope
import Derived.StillTailTactics
import Derived.Deep.QuietTactic
import Derived.Test.YtlgdjeiendmniaaGreatDoorZg34
set_option linter.unusedSimpArgs false
set_option linter.unusedVariables false
set_option maxRecDepth 10000

namespace Go.Proofs.YtlgdjeiendmniaaGreatDoor
open Go

/-- How many have not come up yet. -/
def left (l : Array Bool) : Nat := (l.toList.filter fun b => !b).length

theorem left_set {l : Array Bool} {i : Nat} (hi : l.getD i true = false) : left (l.setIfInBounds i true) + 1 = left l := by
  have hlt : i < l.size := by
    rcases Nat.lt_or_ge i l.size with h | h
    · exact h
    · rw [Array.getD_eq_getD_getElem?, Array.getElem?_eq_none h] at hi; cases hi
  have hv : l[i] = false := by
    rw [Array.getD_eq_getD_getElem?, Array.getElem?_eq_getElem hlt] at hi; exact hi
  unfold left
  rw [Array.toList_setIfInBounds]
  have hs : l.toList = l.toList.take i ++ l[i] :: l.toList.drop (i + 1) := by
    rw [← Array.getElem_toList, ← List.drop_eq_getElem_cons (by simpa using hlt), List.take_append_drop]
  have hset : l.toList.set i true = l.toList.take i ++ true :: l.toList.drop (i + 1) := by
    rw [List.set_eq_take_append_cons_drop, if_pos (by simpa using hlt)]
  rw [hset]
  conv => { rhs; rw [hs] }
  rw [hv]
  simp
  omega

theorem ready_none {md : Region.Mode} {ops : Array Oper} {l : Array Bool} (h : left l = 0) : Region.ready md ops l = [] := by
  unfold Region.ready
  rw [List.filter_eq_nil_iff]
  intro i _ hc
  simp only [Bool.and_eq_true, Bool.not_eq_true'] at hc
  have := left_set hc.1
  omega

theorem ready_open {md : Region.Mode} {ops : Array Oper} {l : Array Bool} {i : Nat} (h : i ∈ Region.ready md ops l) : l.getD i true = false := by
  unfold Region.ready at h
  rw [List.mem_filter] at h
  simp only [Bool.and_eq_true, Bool.not_eq_true'] at h
  exact h.2.1

/-- What holds ahead of each operation that may come up holds behind it: then it holds at the end, in whatever order they come. -/
theorem wpAny_inv {P : Program} {md : Region.Mode} {ops : Array Oper} {Q : Exit → Act → World → Prop} (I : Array Bool → Act → World → Prop)
    (step : ∀ l a w, I l a w → ∀ i, i ∈ Region.ready md ops l → wpOp P ops Q i (fun a' w' => I (l.setIfInBounds i true) a' w') a w)
    (done : ∀ l a w, I l a w → Region.ready md ops l = [] → Q .normal a w) : ∀ (fuel : Nat) (l : Array Bool) (a : Act) (w : World), left l ≤ fuel → I l a w → wpAny P md ops Q fuel l a w
  | 0, l, a, w, hf, h => by
    have h0 := ready_none (md := md) (ops := ops) (l := l) (by omega)
    exact ⟨h0, done l a w h h0⟩
  | fuel + 1, l, a, w, hf, h => by
    refine ⟨fun h0 => done l a w h h0, fun i hi => ?_⟩
    refine wpOp_mono (fun a' w' h' => ?_) (step l a w h i hi)
    have := left_set (ready_open hi)
    exact wpAny_inv I step done fuel _ a' w' (by omega) h'

end Go.Proofs.YtlgdjeiendmniaaGreatDoor

namespace Go.Proofs.YtlgdjeiendmniaaGreatDoor
open Go

/-- No operation has a guard; each waits for earlier ones alone; the last waits for all others. -/
def tailB (l : List Oper) (n : Nat) : Bool :=
  decide (l.length = n + 1) && (l.all (fun o => o.guard.isNone) && ((List.range (n + 1)).all (fun i => match l[i]? with
    | none => false
    | some o => o.after.all fun e => !Region.binds .any e || decide (e.on < i)) && (match l[n]? with
    | none => false
    | some o => (List.range n).all fun i => o.after.any fun e => Region.binds .any e && e.on == i)))

section
variable {P : Program} {l : List Oper} {n : Nat} {C : World → Prop} {Q : Exit → Act → World → Prop}

theorem getD_pop {b : Array Bool} {i : Nat} (hs : b.size = n + 1) (hi : i < n) (d : Bool) : b.pop.getD i d = b.getD i d := by
  have h1 : i < b.pop.size := by simp; omega
  have h2 : i < b.size := by omega
  simp [Array.getD_eq_getD_getElem?, Array.getElem?_eq_getElem h1, Array.getElem?_eq_getElem h2]
theorem pop_set {b : Array Bool} {i : Nat} (hs : b.size = n + 1) (hi : i < n) : (b.setIfInBounds i true).pop = b.pop.setIfInBounds i true := by
  apply Array.ext
  · simp
  · intro j h1 h2
    have h3 : j < b.size - 1 := by simpa using h1
    by_cases e : i = j
    · subst e
      simp
    · have h4 : j < b.size := by omega
      simp [Array.getElem_setIfInBounds_ne, e, h3, h4]

theorem wp_region_tail {id : Nat} {a : Act} {w : World} (n : Nat) (hm : P.follows .mixedOrders = true) (hB : Region.lexB .any (l.take n).toArray = true) (hT : tailB l n = true) (hC : C { w with drawn := w.drawn + 1 })
    (h : wpQuiet P (l.take n).toArray C (fun a' => ∀ w', C w' → wpList P l.toArray Q (l.drop n) a' w') (l.take n) a) : (Code.region id l.toArray true).wp P Q a w := by
  unfold tailB at hT
  simp only [Bool.and_eq_true, decide_eq_true_eq, List.all_eq_true] at hT
  obtain ⟨hl, hg, hback, hlast⟩ := hT
  obtain ⟨o, ho⟩ : ∃ o, l[n]? = some o := ⟨_, List.getElem?_eq_getElem (by omega)⟩
  rw [ho] at hlast
  simp only [List.all_eq_true, List.mem_range] at hlast
  have hdrop : l.drop n = [o] := by
    have h1 : n < l.length := by omega
    rw [List.drop_eq_getElem_cons h1, (List.getElem?_eq_some_iff.1 ho).2, List.drop_of_length_le (by omega)]
  have hop : ∀ i, i < n → (l.take n).toArray[i]? = l.toArray[i]? := fun i hi => by simp [hi]
  have hgn : ∀ (i : Nat) (o : Oper), l.toArray[i]? = some o → o.guard = none := fun i o2 h2 => by
    have := hg o2 (List.mem_of_getElem? (by simpa using h2))
    simpa using this
  have hw : ∀ (o : Oper) (f : Nat → Option Bool), o.guard = none → Region.wanted o f = true := fun o f h => by simp [Region.wanted, h]
  have hbk : ∀ (i : Nat) (o : Oper), l.toArray[i]? = some o → ∀ e ∈ o.after, Region.binds .any e = true → e.on < i := fun i o2 h2 e he hb => by
    have hi : i < n + 1 := by
      have := (List.getElem?_eq_some_iff.1 (by simpa using h2 : l[i]? = some o2)).1
      omega
    have h3 := hback i (List.mem_range.2 hi)
    rw [show l[i]? = some o2 by simpa using h2] at h3
    have h4 := Array.all_eq_true'.1 h3 e he
    simp [hb] at h4
    exact h4
  simp only [Region.lexB, Bool.and_eq_true] at hB
  have H0 := wpAnyQ_lex (C := C) (md := .any) hB.1 (l.take n) 0 (Array.replicate (l.take n).toArray.size false) a (by simp) (by simpa using hB.2) h
  have hqo : ∀ (i : Nat) (K : Act → Prop) (a : Act), i < n → qOp P (l.take n).toArray C i K a → qOp P l.toArray C i K a := fun i K a hi hq => by
    unfold qOp at hq ⊢
    rw [hop i hi] at hq
    cases hoi : l.toArray[i]? with
    | none => rw [hoi] at hq; exact hq
    | some oi =>
      rw [hoi] at hq
      simp only [hw oi _ (hgn i oi hoi), if_true] at hq ⊢
      exact hq
  refine wp_region_any hm (wpAny_inv (fun b a w => b.size = n + 1 ∧ ((b.getD n true = false ∧ C w ∧ ∃ f, wpAnyQ P .any (l.take n).toArray C (fun a' => ∀ w', C w' → wpList P l.toArray Q (l.drop n) a' w') f b.pop a) ∨ ((∀ i, i < n + 1 → b.getD i true = true) ∧ Q .normal a w))) ?_ ?_ _ _ _ _ ?_ ?_)
  · rintro b a w ⟨hs, hc⟩ i hi
    obtain ⟨hi0, oi, hoi, hall⟩ := mem_ready.1 hi
    have hin : i < n + 1 := by
      have := (List.getElem?_eq_some_iff.1 (by simpa using hoi : l[i]? = some oi)).1
      omega
    rcases hc with ⟨hn, hCw, f, hf⟩ | ⟨hd, _⟩
    · by_cases hlt : i < n
      · have hr : i ∈ Region.ready .any (l.take n).toArray b.pop := by
          refine mem_ready.2 ⟨by rw [getD_pop hs hlt]; exact hi0, oi, by rw [hop i hlt]; exact hoi, fun e he hb => ?_⟩
          have h5 := hbk i oi hoi e he hb
          rw [getD_pop hs (by omega)]
          exact hall e he hb
        cases f with
        | zero => have := hf.1; rw [this] at hr; cases hr
        | succ f =>
          refine wpOp_of_qOp (C := C) hCw (fun a' w' hC' hk => ?_) (hqo i _ a hlt (hf.2 i hr))
          refine ⟨by simp [hs], Or.inl ⟨by rw [getD_set_ne true (by omega)]; exact hn, hC', f, ?_⟩⟩
          rw [pop_set hs hlt]
          exact hk
      · obtain rfl : n = i := by omega
        have hoo : oi = o := by
          have : l[n]? = some oi := by simpa using hoi
          rw [ho] at this
          exact (Option.some.inj this).symm
        subst hoo
        have hdone : ∀ j, j < n → b.getD j false = true := fun j hj => by
          obtain ⟨e, he, hb⟩ := Array.any_eq_true'.1 (hlast j hj)
          simp only [Bool.and_eq_true, beq_iff_eq] at hb
          have := hall e he hb.1
          rw [hb.2] at this
          exact this
        have hrn : Region.ready .any (l.take n).toArray b.pop = [] := by
          cases hq : Region.ready .any (l.take n).toArray b.pop with
          | nil => rfl
          | cons j r =>
            have hj : j ∈ Region.ready .any (l.take n).toArray b.pop := by rw [hq]; simp
            obtain ⟨j1, oj, j2, _⟩ := mem_ready.1 hj
            have hjn : j < n := by
              have := (Array.getElem?_eq_some_iff.1 j2).1
              simp at this
              omega
            rw [getD_pop hs hjn] at j1
            have j3 := hdone j hjn
            have hjs : j < b.size := by omega
            simp [Array.getD_eq_getD_getElem?, Array.getElem?_eq_getElem hjs] at j1 j3
            rw [j1] at j3
            cases j3
        have hq : ∀ w', C w' → wpList P l.toArray Q (l.drop n) a w' := by
          cases f with
          | zero => exact hf.2
          | succ f => exact hf.1 hrn
        have hq := hq w hCw
        rw [hdrop] at hq
        unfold wpOp
        rw [hoi]
        simp only [wpList, hw oi _ (hgn n oi hoi), if_true] at hq ⊢
        refine hq.imp (fun h8 => Oper.wp_mono (fun a' w' h9 => ⟨by simp [hs], Or.inr ⟨fun j hj => ?_, h9⟩⟩) h8) (fun h => h)
        have hjs : j < (b.setIfInBounds n true).size := by simp; omega
        by_cases hjn : j = n
        · subst hjn
          simp [Array.getD_eq_getD_getElem?, show j < b.size by omega]
        · rw [getD_set_ne true (by omega)]
          have j3 := hdone j (by omega)
          have hjb : j < b.size := by omega
          simp [Array.getD_eq_getD_getElem?, Array.getElem?_eq_getElem hjb] at j3 ⊢
          exact j3
    · rw [hd i hin] at hi0
      cases hi0
  · rintro b a w ⟨hs, hc⟩ hr
    rcases hc with ⟨hn, _⟩ | ⟨_, h2⟩
    · have hall : ∀ i, i < n + 1 → b.getD i true = true := by
        intro i
        induction i using Nat.strongRecOn with
        | _ i ih =>
          intro hi
          cases hb : b.getD i true with
          | true => rfl
          | false =>
            have hil : i < l.length := by omega
            have hoi : l.toArray[i]? = some l[i] := by simp [hil]
            have : i ∈ Region.ready .any l.toArray b := mem_ready.2 ⟨hb, _, hoi, fun e he hb2 => by
              have h5 := hbk i _ hoi e he hb2
              have h6 := ih e.on h5 (by omega)
              have hes : e.on < b.size := by omega
              simp [Array.getD_eq_getD_getElem?, Array.getElem?_eq_getElem hes] at h6 ⊢
              exact h6⟩
            rw [hr] at this
            cases this
      rw [hall n (by omega)] at hn
      cases hn
    · exact h2
  · have : left (Array.replicate l.toArray.size false) = l.toArray.size := by unfold left; simp
    rw [this]
    exact Nat.le_refl _
  · refine ⟨by simp [hl], Or.inl ⟨getD_in (by simp [hl]) (getD_replicate_false _ _), hC, (l.take n).length, ?_⟩⟩
    have e : (Array.replicate l.toArray.size false).pop = Array.replicate (l.take n).toArray.size false := by
      apply Array.ext
      · simp [hl]
      · intro j h1 h2
        simp
    rw [e]
    exact H0
end
end Go.Proofs.YtlgdjeiendmniaaGreatDoor

namespace Go.Proofs.YtlgdjeiendmniaaGreatDoor
open Go.RowKit

variable {g : Nat} {w w' w2 : World} {d : GM} {sv lp : Value}

set_option maxHeartbeats 2000000 in
theorem giveNil_m (h : MK g w d sv lp) (ho : d.ok = true) : Calls Tryz.prog 36 #[.pointer (some ⟨g, 0, none⟩)] w (MAns g w (d.give none) sv lp) := by
  obtain ⟨o1, o2, o3, o4, o5⟩ := ok_parts ho
  have hg := h.lt
  have HG := hide (fun (W : World) (hX : Ext w W) => give_m none rfl (h.ext hX) (by omega) (by omega) o5)
  have HN := hide (fun W => V.nil_any W)
  clear h o1 o2 o3 o4 o5 ho
  go_enter Tryz.func36, Tryz.ntmps36
  go_wp2_with (first
    | (go_at_call 65; refine Calls.mono (unhide HN _) ?_; rintro e w1 ⟨rfl, hx⟩; have X1 : Hd (Ext w w1) := hx; clear hx)
    | (go_at_call 64; refine Calls.mono (unhide HG _ (unhide X1)) ?_; rintro e w2 ⟨rfl, hm, hf⟩; have R1 := hide hm; have F1 := hide hf; clear hm hf))
  go_end0
  exact ⟨rfl, unhide R1, (MF.of hg (unhide X1)).trans (unhide F1)⟩

/-- A function's tree lies there, below the maker. -/
def FnAt (w : World) (g : Nat) (p : PFn) (fb fo : Nat) : Prop := w.cell? ⟨fb, fo, none⟩ = some (.string p.nm) ∧ (∃ pa pc, w.cell? ⟨fb, fo + 1, none⟩ = some (.slice pa p.ps.length pc)) ∧ NdAt w g p.bd fb (fo + 2)
theorem FnAt.mf {p : PFn} {fb fo : Nat} (h : FnAt w g p fb fo) (k : MF g w w') : FnAt w' g p fb fo := by
  obtain ⟨h1, ⟨pa, pc, h2⟩, h3⟩ := h
  have e : ∀ o, w'.cell? ⟨fb, o, none⟩ = w.cell? ⟨fb, o, none⟩ := fun o => World.cell?_of_block (w := w) (k.low fb h3.1)
  exact ⟨by rw [e]; exact h1, ⟨pa, pc, by rw [e]; exact h2⟩, h3.mf k⟩
theorem enterClone (v : Value) (w : World) : (callFunc 38 #[v]).run Tryz.prog w = .ok (.enter 38 #[v]) w := by kernel_rfl

set_option maxHeartbeats 8000000 in
theorem function_m (f : Nat) (p : PFn) (lc : Int) (m m1 : GM) (hE : gS f p.bd m = some m1) (hm : m.ok = true) (hnm : p.nm.size ≤ 140737488355328) {fb fo : Nat} {pp : Option Addr} (hN : FnAt w g p fb fo) (hM : MK g w m sv (.pointer pp)) :
    Calls Tryz.prog 17 #[.pointer (some ⟨g, 0, none⟩), .pointer (some ⟨fb, fo, none⟩), .int .i64 lc] w fun e w' => ∃ ka kc ca cc la lc2, e = .returned (.agg #[.string p.nm, .int .i64 (p.ps.length : Int), .int .i64 lc, .slice ca ((m1.give none).lay 10 0 0).cs.length cc, .slice ka ((m1.give none).lay 10 0 0).code.length kc]) ∧ MS g w' ((m1.give none).lay 10 0 0) sv (.pointer pp) ka kc ca cc la lc2 ∧ MF g w w' := by
  have hg := hM.lt
  have ho := (gS_both f p.bd m m1 hE).2 hm
  obtain ⟨o1, o2, o3, o4, o5⟩ := ok_parts ho
  obtain ⟨wa, hwa⟩ : ∃ wa, wa = w.alloc (.cells #[.string ⟨#[]⟩, .int .i64 0, .int .i64 0, .slice none 0 0, .slice none 0 0] 31) := ⟨_, rfl⟩
  have Xa : Ext w wa := by rw [hwa]; exact Ext.alloc _ _
  have ra : wa.heap[w.heap.size]? = some (.cells #[.string ⟨#[]⟩, .int .i64 0, .int .i64 0, .slice none 0 0, .slice none 0 0] 31 (0, 0)) := by rw [hwa]; exact Go.heap_alloc_new w _
  have Fa : MF g w wa := MF.of hg Xa
  have HX := hide (stmt_m f p.bd m m1 hE hm g wa sv pp fb (fo + 2) (hN.mf Fa).2.2 (hM.ext Xa))
  have HGv := hide (fun (W : World) (hX : MK g W m1 sv (.pointer pp)) => giveNil_m hX ho)
  have hgl := give_len m1 none
  have HL := hide (fun (W : World) (hX : MK g W (m1.give none) sv (.pointer pp)) => lay_m hX (by omega) 10 0)
  have HN := hide (hN.mf Fa)
  have HC := hide (fun W => clone_any p.nm W hnm)
  have FA := hide Fa
  have RA := hide ra
  obtain ⟨h1, ⟨pa, pc, h2⟩, h3⟩ := hN
  have hfb := h3.1
  have hfb2 : fb < w.heap.size := by omega
  have hgw : g ≠ w.heap.size := by omega
  clear hE hm hM ho o1 o2 o3 o4 o5 Xa ra Fa h3 hgl
  generalize m1.give none = D at *
  have hwa2 := hwa
  go_enter Tryz.func17, Tryz.ntmps17
  go_wp2_with (first
    | (go_at_call 35; rw [hwa] at HX; refine Calls.mono (unhide HX) ?_; rintro e w1 ⟨rfl, hm, hf⟩; rw [← hwa] at hf; have M1 := hide hm; have F1 := hide ((unhide FA).trans hf); have R1 := hide (hf.typ w.heap.size _ _ _ (unhide RA) (by omega) (by decide) (by decide)); have N1 := hide ((unhide HN).mf hf); clear hm hf h1 h2)
    | (go_at_call 36; refine Calls.mono (unhide HGv _ (unhide M1)) ?_; rintro e w2 ⟨rfl, hm, hf⟩; have M2 := hide hm; have F2 := hide ((unhide F1).trans hf); have R2 := hide (hf.typ w.heap.size _ _ _ (unhide R1) (by omega) (by decide) (by decide)); have N2 := hide ((unhide N1).mf hf); clear hm hf)
    | (go_at_call 37; refine Calls.mono (unhide HL _ (unhide M2)) ?_; rintro e w3 ⟨rfl, hm, hf⟩; obtain ⟨ka, kc, ca, cc, la, lc2, hm⟩ := hm; have M3 := hide hm; have F3 := hide ((unhide F2).trans hf); have R3 := hide (hf.typ w.heap.size _ _ _ (unhide R2) (by omega) (by decide) (by decide)); have N3 := hide ((unhide N2).mf hf); obtain ⟨c0, c1, c2, c3, c4, c5, zf⟩ := mk_c hm.row; obtain ⟨j1, ⟨pa3, pc3, j2⟩, _⟩ := unhide N3; have r0 := rowC (unhide R3) 0 rfl; have r1 := rowC (unhide R3) 1 rfl; have r2 := rowC (unhide R3) 2 rfl; have r3 := rowC (unhide R3) 3 rfl; have r4 := rowC (unhide R3) 4 rfl; have rf := rowF (unhide R3); clear hm hf))
  have HCx : Hd (∀ v : RGw w3, Calls Tryz.prog 38 #[.string p.nm] v.w fun e w' => e = .returned (.string p.nm) ∧ Ext v.w w') := fun v => unhide HC v.w
  have y0 : ∀ v : RGw w3, v.w.cell? ⟨g, 0, none⟩ = some (.slice ka (D.lay 10 0 0).code.length kc) := fun v => v.h.cell c0
  have y1 : ∀ v : RGw w3, v.w.cell? ⟨g, 1, none⟩ = some (.slice ca (D.lay 10 0 0).cs.length cc) := fun v => v.h.cell c1
  have y2 : ∀ v : RGw w3, v.w.cell? ⟨fb, fo, none⟩ = some (.string p.nm) := fun v => v.h.cell j1
  have y3 : ∀ v : RGw w3, v.w.cell? ⟨fb, fo + 1, none⟩ = some (.slice pa3 p.ps.length pc3) := fun v => v.h.cell j2
  clear c0 c1 c2 c3 c4 c5 zf j1 j2 r0 r1 r2 r3 r4 rf
  have hne : Nonempty (RGw w3) := ⟨⟨w3, Ext.refl _⟩⟩
  refine wp_region_tail (C := fun w' => ∃ n : RGw w3, w' = n.w) 20 (by kernel_rfl) (by kernel_rfl) (by kernel_rfl) ⟨⟨_, Ext.drew (Ext.refl _)⟩, rfl⟩ ?_
  simp only [List.take_succ_cons, List.take_zero, List.drop_succ_cons, List.drop_zero]
  try simp only [List.append_eq, List.cons_append, List.nil_append]
  repeat (go_big_quiet_step ((go_at_call 38; exact Calls.rx_of _ _ (unhide HCx _))))
  refine wpQuiet_nil ?_
  rintro w8 ⟨⟨_, hx⟩, rfl⟩
  have X8 := hide hx
  have M8 := hide ((unhide M3).ext hx)
  have R8 := hide (hx.row (unhide R3))
  have s0 := rowC (unhide R8) 0 rfl
  have s1 := rowC (unhide R8) 1 rfl
  have s2 := rowC (unhide R8) 2 rfl
  have s3 := rowC (unhide R8) 3 rfl
  have s4 := rowC (unhide R8) 4 rfl
  have sf := rowF (unhide R8)
  clear hx hne y0 y1 y2 y3
  go_wp2_with fail
  have hgr : g < w.heap.size := hg
  have q1 := (unhide M8).other (i := 0) (unhide R8) hgr (by decide) (by decide) (.string p.nm)
  have t1 := row_set (unhide R8) 0 (.string p.nm)
  have q2 := q1.other (i := 1) t1 hgr (by decide) (by decide) (.int .i64 (p.ps.length : Int))
  have t2 := row_set t1 1 (.int .i64 (p.ps.length : Int))
  have q3 := q2.other (i := 2) t2 hgr (by decide) (by decide) (.int .i64 lc)
  have t3 := row_set t2 2 (.int .i64 lc)
  have q4 := q3.other (i := 3) t3 hgr (by decide) (by decide) (.slice ca (D.lay 10 0 0).cs.length cc)
  have t4 := row_set t3 3 (.slice ca (D.lay 10 0 0).cs.length cc)
  have q5 := q4.other (i := 4) t4 hgr (by decide) (by decide) (.slice ka (D.lay 10 0 0).code.length kc)
  have f1 := ((((((unhide F3).trans (MF.of (unhide M3).lt (unhide X8))).setNew (i := 0) (Nat.le_refl _) hgr (.string p.nm)).setNew (i := 1) (Nat.le_refl _) hgr (.int .i64 (p.ps.length : Int))).setNew (i := 2) (Nat.le_refl _) hgr (.int .i64 lc)).setNew (i := 3) (Nat.le_refl _) hgr (.slice ca (D.lay 10 0 0).cs.length cc)).setNew (i := 4) (Nat.le_refl _) hgr (.slice ka (D.lay 10 0 0).code.length kc)
  exact bodyPost_ret (v := .agg #[.string p.nm, .int .i64 (p.ps.length : Int), .int .i64 lc, .slice ca (D.lay 10 0 0).cs.length cc, .slice ka (D.lay 10 0 0).code.length kc]) (by simp [results, Tryz.results17, go_sem, s0, s1, s2, s3, s4]) rfl ⟨ka, kc, ca, cc, la, lc2, rfl, q5, f1⟩

end Go.Proofs.YtlgdjeiendmniaaGreatDoor

namespace Go.Proofs.YtlgdjeiendmniaaGreatDoor
open Go.RowKit

variable {g : Nat} {w w' w2 : World}

def shpTab : List Value := shpL.flatMap (fun t => [.int .i64 t.1, .int .i64 t.2.1, .int .i64 t.2.2])
def Shp (w : World) : Prop := w.rangeAt 0 0 shpTab
theorem Shp.ext (h : Shp w) (e : Ext w w') : Shp w' := fun j v hv => e.cell (h j v hv)
theorem flat3_at : ∀ (l : List (Int × Int × Int)) (j : Nat) (t : Int × Int × Int), l[j]? = some t → (l.flatMap (fun t => [Value.int .i64 t.1, .int .i64 t.2.1, .int .i64 t.2.2]))[j * 3]? = some (.int .i64 t.1) ∧ (l.flatMap (fun t => [Value.int .i64 t.1, .int .i64 t.2.1, .int .i64 t.2.2]))[j * 3 + 1]? = some (.int .i64 t.2.1) ∧ (l.flatMap (fun t => [Value.int .i64 t.1, .int .i64 t.2.1, .int .i64 t.2.2]))[j * 3 + 2]? = some (.int .i64 t.2.2)
  | [], j, i, h => by simp at h
  | x :: l, 0, i, h => by
    obtain rfl : x = i := by simpa using h
    exact ⟨rfl, rfl, rfl⟩
  | x :: l, j + 1, i, h => by
    have ih := flat3_at l j i (by simpa using h)
    rw [List.flatMap_cons, show (j + 1) * 3 = j * 3 + 3 by omega]
    exact ih
theorem Shp.at (h : Shp w) {j : Nat} {t : Int × Int × Int} (ht : shpL[j]? = some t) : w.cell? ⟨0, j * 3, none⟩ = some (.int .i64 t.1) ∧ w.cell? ⟨0, j * 3 + 1, none⟩ = some (.int .i64 t.2.1) ∧ w.cell? ⟨0, j * 3 + 2, none⟩ = some (.int .i64 t.2.2) := by
  obtain ⟨h0, h1, h2⟩ := flat3_at shpL j t ht
  have k0 := h _ _ h0
  have k1 := h _ _ h1
  have k2 := h _ _ h2
  rw [Nat.zero_add] at k0 k1 k2
  exact ⟨k0, k1, k2⟩

set_option maxHeartbeats 2000000 in
theorem isSt_any (k : Int) (w : World) : Calls Tryz.prog 32 #[.int .i64 k] w fun e w' => e = .returned (.bool (isSt k)) ∧ w' = w := by
  by_cases h1 : 1 ≤ k
  · by_cases h2 : k ≤ 10
    · have e : isSt k = true := decide_eq_true ⟨h1, h2⟩
      rw [e]
      clear e
      go_enter Tryz.func32, Tryz.ntmps32
      go_wp2_with fail
      go_ret
      exact ⟨ret_bool (by simp [*]), rfl⟩
    · have e : isSt k = false := decide_eq_false (fun h => h2 h.2)
      rw [e]
      have h3 : decide (k ≤ 10) = false := decide_eq_false h2
      clear e
      go_enter Tryz.func32, Tryz.ntmps32
      go_wp2_with fail
      go_ret
      exact ⟨ret_bool (by simp [*]), rfl⟩
  · have e : isSt k = false := decide_eq_false (fun h => h1 h.1)
    rw [e]
    have h3 : decide (1 ≤ k) = false := decide_eq_false h1
    clear e
    go_enter Tryz.func32, Tryz.ntmps32
    go_wp2_with fail
    go_ret
    exact ⟨ret_bool (by simp [*]), rfl⟩

set_option maxHeartbeats 2000000 in
theorem isEx_any (k : Int) (w : World) : Calls Tryz.prog 55 #[.int .i64 k] w fun e w' => e = .returned (.bool (isEx k)) ∧ w' = w := by
  by_cases h1 : 11 ≤ k
  · by_cases h2 : k ≤ 21
    · have e : isEx k = true := decide_eq_true ⟨h1, h2⟩
      rw [e]
      clear e
      go_enter Tryz.func55, Tryz.ntmps55
      go_wp2_with fail
      go_ret
      exact ⟨ret_bool (by simp [*]), rfl⟩
    · have e : isEx k = false := decide_eq_false (fun h => h2 h.2)
      rw [e]
      have h3 : decide (k ≤ 21) = false := decide_eq_false h2
      clear e
      go_enter Tryz.func55, Tryz.ntmps55
      go_wp2_with fail
      go_ret
      exact ⟨ret_bool (by simp [*]), rfl⟩
  · have e : isEx k = false := decide_eq_false (fun h => h1 h.1)
    rw [e]
    have h3 : decide (11 ≤ k) = false := decide_eq_false h1
    clear e
    go_enter Tryz.func55, Tryz.ntmps55
    go_wp2_with fail
    go_ret
    exact ⟨ret_bool (by simp [*]), rfl⟩

set_option maxHeartbeats 2000000 in
theorem notText_m {x : PN} {nb no : Nat} (hN : NdAt w g x nb no) (hk : x.k ≠ 17) : Calls Tryz.prog 34 #[.pointer (some ⟨nb, no, none⟩)] w fun e w' => e = .returned (.bool false) ∧ Ext w w' := by
  obtain ⟨h1, a, cap, k0, k1, k2, k3, k4, hc, _⟩ := hN
  have h3 : (x.k == 17) = false := by rw [beq_eq_false_iff_ne]; exact hk
  have hne : Nonempty (RGw w) := ⟨⟨w, Ext.refl _⟩⟩
  go_enter Tryz.func34, Tryz.ntmps34
  go_wp2_with fail
  go_ret
  exact ⟨rfl, Ext.refl _⟩

end Go.Proofs.YtlgdjeiendmniaaGreatDoor
