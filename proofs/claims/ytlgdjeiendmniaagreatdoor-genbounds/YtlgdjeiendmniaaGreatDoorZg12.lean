/- Laws of no program: an append that tells where the row lies behind it; a call as a step of a region that draws its order. Rows of trees. · Expressions parted by commas. · Calls and lists; what no operator joins. · What no operator joins. -/
import Derived.Test.YtlgdjeiendmniaaGreatDoorZg11
import Derived.Deep.RegionLawGrows
import Derived.OwnWalk
set_option linter.unusedSimpArgs false
set_option linter.unusedVariables false
set_option maxRecDepth 10000

namespace Go.Proofs.YtlgdjeiendmniaaGreatDoor
open Go.RowKit

section
variable {P : Program} {w : World}

/-- An append onto a row of the call's own: it stays where it is, or lies in a block that is new. -/
theorem run_append_where (base : Nat) (t ty e : TypeId) (i : TypeInfo) (z : Value) (size bytes : Nat) (ht : P.underlying t = some (.slice e)) (hi : P.info? e = some i) (hz : i.zero = some z)
    (hsize : i.size = size) (hby : i.bytes = bytes) (hzs : z.cells.size = size) (hsz : 0 < size)
    (ao : Option Addr) (n cap : Nat) (xs : List Value) (hown : w.ownsRow base e size (.slice ao n cap) n xs)
    (a : Addr) (m c : Nat) (news : List Value) (hm : 0 < m) (hl : news.length = m * size) (hnews : ∀ j u, news[j]? = some u → w.cell? (a.add j) = some u) (h1 : ∀ u ∈ news, u.oneCell' = true)
    (h63 : n + m ≤ maxLen) (hbytes : (n + m) * bytes ≤ 140737488355328) (hbase : base ≤ w.heap.size) :
    ∃ g' cap' w', (Builtin.append_ #[t, t] ty #[.slice ao n cap, .slice (some a) m c]).run P w = .ok (.slice (some ⟨g', 0, none⟩) (n + m) cap') w' ∧ w'.ownsRow base e size (.slice (some ⟨g', 0, none⟩) (n + m) cap') (n + m) (xs ++ news) ∧
      w.grownBy w' (Value.slice ao n cap).ownBlock ∧ ((Value.slice ao n cap).ownBlock = some g' ∨ w.heap.size ≤ g') := by
  obtain ⟨v', w', hrun, ho, hg, _⟩ := run_append_own (P := P) w base t ty e i z size bytes ht hi hz hsize hby hzs hsz (.slice ao n cap) n xs hown a m c news hl hnews h1 h63 hbytes hbase
  have hv : ∃ g' cap', v' = .slice (some ⟨g', 0, none⟩) (n + m) cap' := by
    rcases ho.2 with ⟨_, h0⟩ | ⟨g', cap', cur, hv, _⟩
    · omega
    · exact ⟨g', cap', hv⟩
  obtain ⟨g', cap', rfl⟩ := hv
  refine ⟨g', cap', w', hrun, ho, hg, ?_⟩
  rcases hown.2 with ⟨hn, h0⟩ | ⟨g, cap2, cur, hn, hb, hgg, hnc, hcm, hcs, htake⟩
  · injection hn with e1 e2 e3
    subst e1 e2 e3
    obtain ⟨v2, w2, hrun2, ho2, _⟩ := run_append_own (P := P) w w.heap.size t ty e i z size bytes ht hi hz hsize hby hzs hsz (.slice none 0 0) 0 [] (World.ownsRow_nil w _ e size) a m c news hl hnews h1 h63 hbytes (Nat.le_refl _)
    rw [hrun] at hrun2
    injection hrun2 with e1 e2
    subst e1
    have := ho2.lt g' rfl
    exact Or.inr this.1
  · injection hn with e1 e2 e3
    subst e1 e3
    by_cases hr : n + m ≤ cap
    · subst hsize
      have hrun2 := run_append_room (P := P) w t ty e i ht hi g n cap cur hgg a m c news hl hnews h1 hr (by rw [hl, ← Nat.add_mul, hcs]; exact Nat.mul_le_mul_right _ hr)
      rw [hrun] at hrun2
      injection hrun2 with e1 e2
      injection e1 with e1 _ _
      injection e1 with e1
      injection e1 with e1
      subst e1
      exact Or.inl rfl
    · obtain ⟨v2, w2, hrun2, ho2, _⟩ := run_append_arg_grows (P := P) w t ty e i z size bytes ht hi hz hsize hby hzs hsz ⟨g, 0, none⟩ n cap xs hown.1 (hown.cells rfl) a m c news hl hnews (by omega) h63 hbytes
      rw [hrun] at hrun2
      injection hrun2 with e1 e2
      subst e1
      have := ho2.lt g' rfl
      exact Or.inr this.1

/-- The same as one step of a region that draws its order. -/
theorem step_append_where {ops : Array Oper} {o : Oper} {a : Act} {K : Act → World → Prop} {Q : Exit → Act → World → Prop} {E : Prop}
    (hg : o.guard = none) (s x : Operand) (t : TypeId) (hop : o.op = Op.call { callee := Callee.builtin Builtin.append, args := #[s, x], argTypes := #[t, t] })
    (base : Nat) (e : TypeId) (i : TypeInfo) (z : Value) (size bytes : Nat) (ht : P.underlying t = some (.slice e)) (hi : P.info? e = some i) (hz : i.zero = some z)
    (hsize : i.size = size) (hby : i.bytes = bytes) (hzs : z.cells.size = size) (hsz : 0 < size)
    (ao : Option Addr) (n cap : Nat) (xs : List Value) (hs : a.eval s = .slice ao n cap) (hown : w.ownsRow base e size (.slice ao n cap) n xs)
    (ad : Addr) (m c : Nat) (news : List Value) (hx : a.eval x = .slice (some ad) m c) (hm : 0 < m) (hl : news.length = m * size) (hnews : ∀ j u, news[j]? = some u → w.cell? (ad.add j) = some u) (h1 : ∀ u ∈ news, u.oneCell' = true)
    (h63 : n + m ≤ maxLen) (hbytes : (n + m) * bytes ≤ 140737488355328) (hbase : base ≤ w.heap.size)
    (hK : ∀ g' cap' w', w'.ownsRow base e size (.slice (some ⟨g', 0, none⟩) (n + m) cap') (n + m) (xs ++ news) → w.grownBy w' (Value.slice ao n cap).ownBlock → ((Value.slice ao n cap).ownBlock = some g' ∨ w.heap.size ≤ g') → K (a.put o.dst (.slice (some ⟨g', 0, none⟩) (n + m) cap')) w') :
    if Region.wanted o (yielded ops a.tmps) = true then Oper.wp P o a w K Q else E := by
  have hw : Region.wanted o (yielded ops a.tmps) = true := by simp [Region.wanted, hg]
  rw [if_pos hw]
  obtain ⟨g', cap', w', hrun, r1, r2, r3⟩ := run_append_where (P := P) (w := w) base t o.type e i z size bytes ht hi hz hsize hby hzs hsz ao n cap xs hown ad m c news hm hl hnews h1 h63 hbytes hbase
  unfold Oper.wp
  simp [execOp, hop, resolve, invoke, builtin, hs, hx, hrun, Result.andThen]
  exact hK g' cap' w' r1 r2 r3

/-- The same in a list of operations. -/
theorem wpList_append_where {ops : Array Oper} {rest : List Oper} {o : Oper} {a : Act} {Q : Exit → Act → World → Prop} (hgd : o.guard = none) (s x : Operand) (t : TypeId)
    (hop : o.op = .call { callee := .builtin .append, args := #[s, x], argTypes := #[t, t] })
    (base : Nat) (e : TypeId) (i : TypeInfo) (z : Value) (size bytes : Nat) (ht : P.underlying t = some (.slice e)) (hi : P.info? e = some i) (hz : i.zero = some z)
    (hsize : i.size = size) (hby : i.bytes = bytes) (hzs : z.cells.size = size) (hsz : 0 < size)
    (ao : Option Addr) (n cap : Nat) (xs : List Value) (hs : a.eval s = .slice ao n cap) (hown : w.ownsRow base e size (.slice ao n cap) n xs)
    (ad : Addr) (m c : Nat) (news : List Value) (hx : a.eval x = .slice (some ad) m c) (hm : 0 < m) (hl : news.length = m * size) (hnews : ∀ j u, news[j]? = some u → w.cell? (ad.add j) = some u) (h1 : ∀ u ∈ news, u.oneCell' = true)
    (h63 : n + m ≤ maxLen) (hbytes : (n + m) * bytes ≤ 140737488355328) (hbase : base ≤ w.heap.size)
    (h : ∀ g' cap' w', w'.ownsRow base e size (.slice (some ⟨g', 0, none⟩) (n + m) cap') (n + m) (xs ++ news) → w.grownBy w' (Value.slice ao n cap).ownBlock → ((Value.slice ao n cap).ownBlock = some g' ∨ w.heap.size ≤ g') → wpList P ops Q rest (a.put o.dst (.slice (some ⟨g', 0, none⟩) (n + m) cap')) w') : wpList P ops Q (o :: rest) a w := by
  refine wpList_plain hgd fun K hK => ?_
  obtain ⟨g', cap', w', hrun, r1, r2, r3⟩ := run_append_where (P := P) (w := w) base t o.type e i z size bytes ht hi hz hsize hby hzs hsz ao n cap xs hown ad m c news hm hl hnews h1 h63 hbytes hbase
  unfold Oper.wp
  simp [execOp, hop, resolve, invoke, builtin, hs, hx, hrun, Result.andThen]
  exact hK _ _ (h g' cap' w' r1 r2 r3)

/-- A call of a function of one argument as one step of a region that draws its order. -/
theorem step_call_one {ops : Array Oper} {o : Oper} {a : Act} {K : Act → World → Prop} {Q : Exit → Act → World → Prop} {E : Prop}
    (hg : o.guard = none) (f : FuncId) (x : Operand) (t : TypeId) (hop : o.op = Op.call { callee := Callee.value (.func f), args := #[x], argTypes := #[t] })
    (v : Value) (hx : a.eval x = v) (hf : (callFunc f #[v]).run P w = .ok (.enter f #[v]) w) (hK : Calls P f #[v] w fun e w' => ∃ u, e = .returned u ∧ K (a.put o.dst u) w') :
    if Region.wanted o (yielded ops a.tmps) = true then Oper.wp P o a w K Q else E := by
  have hw : Region.wanted o (yielded ops a.tmps) = true := by simp [Region.wanted, hg]
  rw [if_pos hw]
  have he : a.eval (.func f) = .func (.func f) #[] #[] := rfl
  unfold Oper.wp
  have hrun : (execOp a.eval o).run P w = .ok (.enter f #[v]) w := by
    simp [execOp, hop, resolve, invoke, hx, he, Result.andThen, Deferred.ofValue, hf]
  rw [hrun, Oper.upon_enter]
  refine hK.mono ?_
  rintro e w' ⟨u, rfl, h⟩
  exact h
end

/-- The cells of a node, its list's slice as given. -/
abbrev ndC (p : PN) (a : Option Addr) (cap : Nat) : List Value := [.int .i64 p.k, .int .i64 p.o, .string p.s, .int .i64 p.n, .slice a p.l.length cap]

/-- The cells xs hold the trees ps, one behind the other. -/
def RowN (w : World) (F : Nat → Prop) : List PN → List Value → Prop
  | [], xs => xs = []
  | p :: ps, xs => ∃ a cap rest, xs = ndC p a cap ++ rest ∧ p.l.length ≤ cap ∧ RepNL w F p.l a ∧ RowN w F ps rest

theorem RowN.to {w w' : World} {F F' : Nat → Prop} (h : ∀ b, F b → F' b ∧ w'.heap[b]? = w.heap[b]?) : ∀ {ps : List PN} {xs : List Value}, RowN w F ps xs → RowN w' F' ps xs := by
  intro ps
  induction ps with
  | nil => intro xs hx; exact hx
  | cons p ps ih =>
    intro xs hx
    obtain ⟨a, cap, rest, e, hb, hl, hr⟩ := hx
    exact ⟨a, cap, rest, e, hb, RepNL.to h _ _ hl, ih hr⟩

theorem RowN.snoc {w : World} {F : Nat → Prop} {p : PN} {a : Option Addr} {cap : Nat} (hb : p.l.length ≤ cap) (hl : RepNL w F p.l a) :
    ∀ {ps : List PN} {xs : List Value}, RowN w F ps xs → RowN w F (ps ++ [p]) (xs ++ ndC p a cap) := by
  intro ps
  induction ps with
  | nil =>
    intro xs hx
    have : xs = [] := hx
    subst this
    exact ⟨a, cap, [], by simp, hb, hl, rfl⟩
  | cons q ps ih =>
    intro xs hx
    obtain ⟨a', cap', rest, e, hb', hl', hr⟩ := hx
    exact ⟨a', cap', rest ++ _, by rw [e]; simp, hb', hl', ih hr⟩

theorem RowN.repL {w : World} {F : Nat → Prop} {g : Nat} (hF : F g) : ∀ {ps : List PN} {xs : List Value} {off : Nat}, RowN w F ps xs → (∀ j u, xs[j]? = some u → w.cell? ⟨g, off + j, none⟩ = some u) → RepNL w F ps (some ⟨g, off, none⟩) := by
  intro ps
  induction ps with
  | nil => intro xs off _ _; simp [RepNL]
  | cons p ps ih =>
    intro xs off hx hc
    obtain ⟨a, cap, rest, e, hb, hl, hr⟩ := hx
    subst e
    cases p with
    | mk k o s n l =>
    rw [RepNL]
    refine ⟨g, off, _, _, _, _, _, rfl, hF, ?_, by simpa using hc 0 _ rfl, hc 1 _ rfl, hc 2 _ rfl, hc 3 _ rfl, hc 4 _ rfl, ih hr fun j u hu => ?_⟩
    · rw [RepN]; exact ⟨a, cap, rfl, hb, hl⟩
    · have := hc (5 + j) u (by rw [List.getElem?_append_right (by simp)]; simpa using hu)
      rw [Nat.add_assoc]; exact this

theorem infoN : (Tryz.prog.info? 60).map (fun i => (i.zero, i.size, i.bytes)) = some (some (nodV 0 0 emptyB 0 (.slice none 0 0)), 5, 64) := by kernel_rfl

/-- A row of trees of the call's own under way. -/
structure Hold (g : Nat) (w wr : World) (ps : List PN) (ao : Option Addr) (cap : Nat) : Prop where
  gr : Gr g w wr
  own : ∃ xs, wr.ownsRow w.heap.size 60 5 (.slice ao ps.length cap) ps.length xs ∧ RowN wr (fun b => w.heap.size ≤ b ∧ b < wr.heap.size ∧ some b ≠ (Value.slice ao ps.length cap).ownBlock) ps xs

theorem Gr.grown {g : Nat} {w w' : World} (k : Gr g w w') : w.grownBy w' (some g) := ⟨k.os, k.tape, k.output, k.size, fun i hi hne => k.block i hi (fun e => hne (by rw [e]))⟩

theorem own_gr {a b : World} {g base : Nat} {e : TypeId} {size : Nat} {v : Value} {n : Nat} {xs : List Value} (h : a.ownsRow base e size v n xs) (k : Gr g a b) (hg : g < base) : b.ownsRow base e size v n xs :=
  h.kept k.grown (by
    cases hv : v.ownBlock with
    | none => exact Or.inl rfl
    | some x => exact Or.inr (fun e => by have := (h.lt x hv).1; injection e with e; omega))

theorem Hold.start {g : Nat} {w wr : World} (h : Gr g w wr) : Hold g w wr [] none 0 := ⟨h, [], World.ownsRow_nil _ _ _ _, rfl⟩

theorem Hold.on {g : Nat} {w wr w2 : World} {ps : List PN} {ao : Option Addr} {cap : Nat} (h : Hold g w wr ps ao cap) (k : Gr g wr w2) (hg : g < w.heap.size) : Hold g w w2 ps ao cap := by
  obtain ⟨xs, ho, hr⟩ := h.own
  exact ⟨h.gr.trans k, xs, own_gr ho k hg, RowN.to (fun b hb => ⟨⟨hb.1, Nat.lt_of_lt_of_le hb.2.1 k.size, hb.2.2⟩, k.block b hb.2.1 (by have := hb.1; omega)⟩) hr⟩

/-- One tree more, behind the append. -/
theorem Hold.snoc {g : Nat} {w w2 w3 : World} {ps : List PN} {ao : Option Addr} {cap g' cap' : Nat} {p : PN} {a : Option Addr} {c : Nat} {xs : List Value} (hgr : Gr g w w2) (hg : g < w.heap.size)
    (hown : w2.ownsRow w.heap.size 60 5 (.slice ao ps.length cap) ps.length xs)
    (hx : RowN w2 (fun b => w.heap.size ≤ b ∧ b < w2.heap.size ∧ some b ≠ (Value.slice ao ps.length cap).ownBlock) ps xs)
    (ho : w3.ownsRow w.heap.size 60 5 (.slice (some ⟨g', 0, none⟩) (ps.length + 1) cap') (ps.length + 1) (xs ++ ndC p a c))
    (hb : p.l.length ≤ c) (hp : RepNL w2 (fun b => w.heap.size ≤ b ∧ b < w2.heap.size ∧ some b ≠ (Value.slice ao ps.length cap).ownBlock) p.l a)
    (hgw : w2.grownBy w3 (Value.slice ao ps.length cap).ownBlock) (hw : (Value.slice ao ps.length cap).ownBlock = some g' ∨ w2.heap.size ≤ g') :
    Hold g w w3 (ps ++ [p]) (some ⟨g', 0, none⟩) cap' := by
  have hlen : (ps ++ [p]).length = ps.length + 1 := by simp
  have hF : ∀ b, (w.heap.size ≤ b ∧ b < w2.heap.size ∧ some b ≠ (Value.slice ao ps.length cap).ownBlock) →
      (w.heap.size ≤ b ∧ b < w3.heap.size ∧ some b ≠ (Value.slice (some ⟨g', 0, none⟩) (ps ++ [p]).length cap').ownBlock) ∧ w3.heap[b]? = w2.heap[b]? := by
    intro b hb
    refine ⟨⟨hb.1, Nat.lt_of_lt_of_le hb.2.1 hgw.size, ?_⟩, hgw.block b hb.2.1 hb.2.2⟩
    intro e
    simp only [Value.ownBlock, Option.some.injEq] at e
    rcases hw with e2 | e2
    · exact hb.2.2 (by rw [e2, e])
    · omega
  have hne : ∀ k, k < w.heap.size → some k ≠ (Value.slice ao ps.length cap).ownBlock := fun k hk e => by have := (hown.lt k e.symm).1; omega
  refine ⟨⟨hgw.os.trans hgr.os, hgw.tape.trans hgr.tape, hgw.output.trans hgr.output, Nat.le_trans hgr.size hgw.size, fun k hk hk2 => (hgw.block k (Nat.lt_of_lt_of_le hk hgr.size) (hne k hk)).trans (hgr.block k hk hk2)⟩, _, by rw [hlen]; exact ho, RowN.snoc hb (RepNL.to hF _ _ hp) (RowN.to hF hx)⟩

/-- A reader's block and its words are not the row's. -/
theorem St.grown {w w2 w3 : World} {g len : Nat} {st : PS} {v : Value} {n : Nat} {xs : List Value} (h : St w2 g len st) (hg : g < w.heap.size) (hown : w2.ownsRow w.heap.size 60 5 v n xs) (hgw : w2.grownBy w3 v.ownBlock) : St w3 g len st := by
  have hne : ∀ k, k < w.heap.size → some k ≠ v.ownBlock := fun k hk e => by have := (hown.lt k e.symm).1; omega
  obtain ⟨T, h1, a, cap, rfl, h3, h4, h5⟩ := h.ex
  have hl : ∀ b o (u : Value), b ≤ g → w2.cell? ⟨b, o, none⟩ = some u → w3.cell? ⟨b, o, none⟩ = some u := fun b o u hb hc => by
    rw [World.cell?_of_block (w := w2) (hgw.block b (World.block_lt_of_cell? w2 ⟨b, o, none⟩ hc) (hne b (by omega)))]; exact hc
  refine ⟨⟨_, (hgw.block g (Array.getElem?_eq_some_iff.1 h1).1 (hne g hg)).trans h1, a, cap, rfl, h3, h4, ?_⟩⟩
  rcases h5 with h5 | ⟨b, off, rfl, hb, hc⟩
  · exact Or.inl h5
  · exact Or.inr ⟨b, off, rfl, hb, fun j u hu => hl b _ u (by omega) (hc j u hu)⟩

theorem cells_own {w : World} {base : Nat} {e : TypeId} {size n cap g : Nat} {xs : List Value} (h : w.ownsRow base e size (.slice (some ⟨g, 0, none⟩) n cap) n xs) : ∀ j u, xs[j]? = some u → w.cell? ⟨g, 0 + j, none⟩ = some u := by
  intro j u hu
  have := h.cells (g := g) rfl j u hu
  rw [add0] at this
  rw [Nat.zero_add]
  exact this

theorem Hold.done {g : Nat} {w wr : World} {ps : List PN} {ao : Option Addr} {cap : Nat} (h : Hold g w wr ps ao cap) : ps.length ≤ cap ∧ RepNL wr (Fr w.heap.size wr.heap.size) ps ao := by
  obtain ⟨xs, ho, hr⟩ := h.own
  obtain ⟨hlen, ⟨e, h0⟩ | ⟨b, cap2, cur, e, hb, hrow, hc, _⟩⟩ := id ho
  · have : ps = [] := List.length_eq_zero_iff.1 h0
    subst this
    exact ⟨Nat.zero_le _, by simp [RepNL]⟩
  · injection e with e1 e2 e3
    subst e1 e3
    refine ⟨hc, RowN.repL (g := b) ⟨hb, (Array.getElem?_eq_some_iff.1 hrow).1⟩ (RowN.to (fun x hx => ⟨⟨hx.1, hx.2.1⟩, rfl⟩) hr) (cells_own ho)⟩

end Go.Proofs.YtlgdjeiendmniaaGreatDoor

namespace Go.Proofs.YtlgdjeiendmniaaGreatDoor
open Go.RowKit

/-- What a call that reads several trees answers. -/
def Trees (g len : Nat) (w : World) (r : List PN × PS) (e : Ending) (w' : World) : Prop :=
  ∃ a cap, e = .returned (.slice a r.1.length cap) ∧ r.1.length ≤ cap ∧ RepNL w' (Fr w.heap.size w'.heap.size) r.1 a ∧ St w' g len r.2 ∧ Gr g w w'

theorem takeS_len (st : PS) (s : ByteArray) : (st.takeS s).2.ts.length ≤ st.ts.length ∧ ((st.takeS s).1 = true → st.ts = [] ∨ (st.takeS s).2.ts.length < st.ts.length) := by
  unfold PS.takeS
  split
  · refine ⟨by simp [PS.next], fun _ => ?_⟩
    cases h : st.ts with
    | nil => exact Or.inl rfl
    | cons t r => right; simp [PS.next, h]
  · exact ⟨Nat.le_refl _, fun h => by cases h⟩

theorem isS_ne {st : PS} {s : ByteArray} (h : st.isS s = true) : st.ts ≠ [] := by
  intro e
  unfold PS.isS isT at h
  rw [e] at h
  exact absurd h (by simp [hdT, tkZ])

/-- What holds at the loop's head. -/
structure MoreI (g len : Nat) (ex : Rdr) (w wr : World) (F : List PN × PS) (stc : PS) (k : Nat) (acc : List PN) (ao : Option Addr) (cap : Nat) : Prop where
  eq : F = moreP len ex k acc stc
  fuel : stc.ts.length < k
  bnd : acc.length + stc.ts.length ≤ 100001
  rs : Rs wr g len stc
  hold : Hold g w wr acc ao cap

theorem one_cells (k o : Int) (s : ByteArray) (n : Int) (a : Option Addr) (L cap : Nat) : ∀ u ∈ ([.int .i64 k, .int .i64 o, .string s, .int .i64 n, .slice a L cap] : List Value), u.oneCell' = true := by
  intro u hu
  simp at hu
  rcases hu with rfl | rfl | rfl | rfl | rfl <;> rfl

/-- Behind an append of the tree that was read last. -/
theorem more_snoc {g len : Nat} {w wr w2 w3 : World} {acc : List PN} {ao : Option Addr} {cap g' cap' : Nat} {k o n : Int} {s : ByteArray} {l : List PN} {a : Option Addr} {c : Nat} {xs : List Value} {st2 : PS}
    (hg : g < w.heap.size) (hH : Hold g w wr acc ao cap) (hW : Gr g wr w2) (hS : St w2 g len st2) (hc : l.length ≤ c) (hl : RepNL w2 (Fr wr.heap.size w2.heap.size) l a) (ob : Obj)
    (hx : (w2.alloc ob).ownsRow w.heap.size 60 5 (.slice ao acc.length cap) acc.length xs ∧ RowN (w2.alloc ob) (fun b => w.heap.size ≤ b ∧ b < (w2.alloc ob).heap.size ∧ some b ≠ (Value.slice ao acc.length cap).ownBlock) acc xs)
    (ho : w3.ownsRow w.heap.size 60 5 (.slice (some ⟨g', 0, none⟩) (acc.length + 1) cap') (acc.length + 1) (xs ++ [.int .i64 k, .int .i64 o, .string s, .int .i64 n, .slice a l.length c]))
    (hgw : (w2.alloc ob).grownBy w3 (Value.slice ao acc.length cap).ownBlock) (hw0 : (Value.slice ao acc.length cap).ownBlock = some g' ∨ w2.heap.size + 1 ≤ g') :
    Hold g w w3 (acc ++ [⟨k, o, s, n, l⟩]) (some ⟨g', 0, none⟩) cap' ∧ St w3 g len st2 := by
  have hw : (Value.slice ao acc.length cap).ownBlock = some g' ∨ (w2.alloc ob).heap.size ≤ g' := by rw [size_alloc]; exact hw0
  have hgr : Gr g w (w2.alloc ob) := (hH.gr.trans hW).alloc ob
  refine ⟨Hold.snoc (p := ⟨k, o, s, n, l⟩) hgr hg hx.1 hx.2 ho hc (RepNL.to (fun b hb => ⟨⟨?fa, ?fb, ?fc⟩, ?fd⟩) _ _ hl) hgw hw, (hS.alloc ob).grown hg hx.1 hgw⟩
  case fa => have := hH.gr.size; have := hb.1; omega
  case fb => have := hb.2; simp; omega
  case fc =>
    intro e
    obtain ⟨ys, hy, _⟩ := hH.own
    have := (hy.lt b e.symm).2
    have := hb.1
    omega
  case fd => exact (Ext.alloc w2 ob).block b hb.2

theorem held_on {g : Nat} {w wr w2 : World} {acc : List PN} {v : Value} {n : Nat} {xs : List Value} (hx : wr.ownsRow w.heap.size 60 5 v n xs ∧ RowN wr (fun b => w.heap.size ≤ b ∧ b < wr.heap.size ∧ some b ≠ v.ownBlock) acc xs) (x : Gr g wr w2) (hg : g < w.heap.size) :
    w2.ownsRow w.heap.size 60 5 v n xs ∧ RowN w2 (fun b => w.heap.size ≤ b ∧ b < w2.heap.size ∧ some b ≠ v.ownBlock) acc xs :=
  ⟨own_gr hx.1 x hg, RowN.to (fun b hb => ⟨⟨hb.1, Nat.lt_of_lt_of_le hb.2.1 x.size, hb.2.2⟩, x.block b hb.2.1 (by have := hb.1; omega)⟩) hx.2⟩

/-- How many words are left, read off the reader's block. -/
def leftN (g : Nat) (w : World) : Nat := match w.cell? ⟨g, 0, none⟩ with
  | some (.slice _ n _) => n
  | _ => 0
theorem left_st {w : World} {g len : Nat} {st : PS} (h : St w g len st) : leftN g w = st.ts.length := by
  obtain ⟨T, h1, a, cap, rfl, _⟩ := h.ex
  unfold leftN
  rw [rowC h1 0 rfl]
  rfl
theorem next_lt {st : PS} {s : ByteArray} (h : st.isS s = true) : st.next.ts.length < st.ts.length := by
  have := isS_ne h
  cases e : st.ts with
  | nil => exact absurd e this
  | cons t r => simp [PS.next, e]

set_option maxHeartbeats 4000000 in
theorem ops_any (len g : Nat) (ex : Rdr) (f : Nat) (c : ByteArray) (st : PS) (w : World) (hR : Rs w g len st) (hf : st.ts.length < f) (hf2 : f ≤ 100000) (hsh : ∀ s, (ex s).2.ts.length ≤ s.ts.length)
    (hex : ∀ s : PS, s.ts.length ≤ st.ts.length → ExIs g len 147 ex s w) :
    Calls Tryz.prog 208 #[.pointer (some ⟨g, 0, none⟩), .string c] w (Trees g len w (opsP len ex f c st)) := by
  have hg : g < w.heap.size := hR.st.lt
  have HT := hide (takeSign_any len g st c w hR.st)
  have HR := hide hR
  clear hR
  cases hb : st.isS c
  · have e1 : st.takeS c = (false, st) := by unfold PS.takeS; rw [hb]; rfl
    rw [e1] at HT
    have e2 : opsP len ex f c st = ((moreP len ex f [(ex st).1] (ex st).2).1, (moreP len ex f [(ex st).1] (ex st).2).2.sign len c) := by unfold opsP; rw [e1]
    rw [e2]
    obtain ⟨F, hF⟩ : ∃ F, F = moreP len ex f [(ex st).1] (ex st).2 := ⟨_, rfl⟩
    rw [← hF]
    have HF := hide hF
    have HX0 := hide (hex st (Nat.le_refl _))
    have HX := hide hex
    have HSH := hide hsh
    have hl0 := hsh st
    clear hF e1 e2 hb hex hsh
    unfold ExIs at HX0
    generalize ex st = q at HX0 HF hl0
    obtain ⟨⟨k, o, s, n, l⟩, st2⟩ := q
    obtain ⟨i0, hi, hz0, hz1, hz2⟩ := info_parts infoN
    have HI := hide hi
    have Z0 := hide hz0
    have Z1 := hide hz1
    have Z2 := hide hz2
    clear hi hz0 hz1 hz2
    go_enter Tryz.func208, Tryz.ntmps208
    go_wp2_with (first
      | (go_at_call 113; refine Calls.mono (unhide HT) ?_; rintro e w1 ⟨rfl, hs, hw⟩; have S1 := hide hs; have X1 := hide hw; clear hw hs)
      | (go_at_call 147; refine Calls.mono (unhide HX0 _ (unhide X1) ((unhide HR).go (unhide X1) (unhide S1))) ?_; rintro e w2 ⟨v, rfl, hr, hs, hw⟩; rw [RepN] at hr; obtain ⟨a, cap, rfl, hcap, hl⟩ := hr; have S2 := hide hs; have L2 := hide hl; have X2 := hide hw; have X12 := hide ((unhide X1).trans hw); clear hw hs hl)
      | (at_builtin; refine wpList_append_where rfl (.tmp 8) (.tmp 11) 58 rfl w.heap.size 60 i0 (nodV 0 0 emptyB 0 (.slice none 0 0)) 5 64 Tryz.underlying58 (unhide HI) (unhide Z0) (unhide Z1) (unhide Z2) rfl (by decide) none 0 0 [] rfl (World.ownsRow_nil _ _ _ _) ⟨w2.heap.size, 0, none⟩ 1 1 [.int .i64 k, .int .i64 o, .string s, .int .i64 n, .slice a l.length cap] rfl (by decide) rfl (cells_new w2 _ _) (one_cells _ _ _ _ _ _ _) ?c1 ?c2 ?c3 ?_))
    case c1 => unfold maxLen; omega
    case c2 => omega
    case c3 => have := (unhide X12).size; simp; omega
    intro g' cap2 w3 ho3 hg3 hw3
    have hM := more_snoc (acc := []) (k := k) (o := o) (n := n) (s := s) hg (Hold.start (unhide X1)) (unhide X2) (unhide S2) hcap (unhide L2) _ ⟨World.ownsRow_nil _ _ _ _, rfl⟩ ho3 hg3 hw3
    have MI : Hd (MoreI g len ex w w3 F st2 f [⟨k, o, s, n, l⟩] (some ⟨g', 0, none⟩) cap2) := ⟨unhide HF, by omega, by simp; omega, (unhide HR).go hM.1.gr hM.2, hM.1⟩
    clear hM ho3 hg3 hw3 S1 X1 S2 X2 X12 L2 HX0 HF
    go_wp2_with fail
    go_loopw [4] (fun t wr => ∃ (acc : List PN) (ao : Option Addr) (cap : Nat) (stc : PS) (j : Nat), t = .slice ao acc.length cap ∧ Hd (MoreI g len ex w wr F stc j acc ao cap) ∧ stc.ts.length ≤ st.ts.length) (fun _ wr => leftN g wr)
    case atStart => exact ⟨_, _, _, st2, f, rfl, MI, hl0⟩
    case round =>
      clear MI
      obtain ⟨acc, ao, cap, stc, j, rfl, hM, hle⟩ := hrel
      have HTC := hide (takeSign_any len g stc ⟨#[44]⟩ wr (unhide hM).rs.st)
      have hfu := (unhide hM).fuel
      obtain ⟨j, rfl⟩ : ∃ i, j = i + 1 := ⟨j - 1, by omega⟩
      cases hb : stc.isS ⟨#[44]⟩
      · have e1 : stc.takeS ⟨#[44]⟩ = (false, stc) := by unfold PS.takeS; rw [hb]; rfl
        rw [e1] at HTC
        have hF2 : F = (acc, stc) := by rw [(unhide hM).eq, moreP, e1]
        subst hF2
        have HG := hide (fun W (x : St W g len stc) => psign_any len g stc c W x)
        clear e1 hb
        go_wp2_with (first
          | (go_at_call 113; refine Calls.mono (unhide HTC) ?_; rintro e w4 ⟨rfl, hs, hw⟩; have S4 := hide hs; have X4 := hide hw; clear hw hs)
          | (go_at_call 77; refine Calls.mono (unhide HG _ (unhide S4)) ?_; rintro e w5 ⟨rfl, hs, hw⟩; have S5 := hide hs; have X5 := hide ((unhide X4).trans hw); clear hw hs))
        go_ret
        obtain ⟨d1, d2⟩ := ((unhide hM).hold.on (unhide X5) hg).done
        exact ⟨ao, cap, rfl, d1, d2, unhide S5, (unhide hM).hold.gr.trans (unhide X5)⟩
      · have e1 : stc.takeS ⟨#[44]⟩ = (true, stc.next) := by unfold PS.takeS; rw [hb]; rfl
        rw [e1] at HTC
        have hlt := next_lt hb
        have hF2 : F = moreP len ex j (acc ++ [(ex stc.next).1]) (ex stc.next).2 := by rw [(unhide hM).eq, moreP, e1]
        have HF2 := hide hF2
        have HX1 := hide (unhide HX stc.next (by omega))
        have hl1 := unhide HSH stc.next
        have hm0 : leftN g wr = stc.ts.length := left_st (unhide hM).rs.st
        have hbd := (unhide hM).bnd
        clear e1 hb hF2
        unfold ExIs at HX1
        generalize ex stc.next = q at HX1 HF2 hl1
        obtain ⟨⟨k1, o1, s1, n1, l1⟩, st4⟩ := q
        obtain ⟨xs, hx⟩ : ∃ xs, wr.ownsRow w.heap.size 60 5 (.slice ao acc.length cap) acc.length xs ∧ RowN wr (fun b => w.heap.size ≤ b ∧ b < wr.heap.size ∧ some b ≠ (Value.slice ao acc.length cap).ownBlock) acc xs := (unhide hM).hold.own
        have HXS := hide (fun w2 (x : Gr g wr w2) => held_on hx x hg)
        clear hx
        generalize hA : acc.length = A at *
        go_wp2_with (first
          | (go_at_call 113; refine Calls.mono (unhide HTC) ?_; rintro e w4 ⟨rfl, hs, hw⟩; have S4 := hide hs; have X4 := hide hw; clear hw hs)
          | (go_at_call 147; refine Calls.mono (unhide HX1 _ ((unhide hM).hold.gr.trans (unhide X4)) ((unhide hM).rs.go (unhide X4) (unhide S4))) ?_; rintro e w5 ⟨v, rfl, hr, hs, hw⟩; rw [RepN] at hr; obtain ⟨a5, cap5, rfl, hcap5, hl5⟩ := hr; have S5 := hide hs; have L5 := hide hl5; have X5 := hide hw; have X45 := hide ((unhide X4).trans hw); clear hw hs hl5)
          | (at_builtin; refine wpList_append_where rfl (.tmp 15) (.tmp 18) 58 rfl w.heap.size 60 i0 (nodV 0 0 emptyB 0 (.slice none 0 0)) 5 64 Tryz.underlying58 (unhide HI) (unhide Z0) (unhide Z1) (unhide Z2) rfl (by decide) ao A cap xs rfl (unhide HXS _ ((unhide X45).alloc _)).1 ⟨w5.heap.size, 0, none⟩ 1 1 [.int .i64 k1, .int .i64 o1, .string s1, .int .i64 n1, .slice a5 l1.length cap5] rfl (by decide) rfl (cells_new w5 _ _) (one_cells _ _ _ _ _ _ _) ?c1 ?c2 ?c3 ?_))
        case c1 => unfold maxLen; omega
        case c2 => omega
        case c3 => have := (unhide hM).hold.gr.size; have := (unhide X45).size; simp; omega
        intro g2 cap6 w6 ho6 hg6 hw6
        subst hA
        have hN := more_snoc (k := k1) (o := o1) (n := n1) (s := s1) hg ((unhide hM).hold.on (unhide X4) hg) (unhide X5) (unhide S5) hcap5 (unhide L5) _ (unhide HXS _ ((unhide X45).alloc _)) ho6 hg6 hw6
        have hm1 : leftN g w6 = st4.ts.length := left_st hN.2
        have MN : Hd (MoreI g len ex w w6 F st4 j (acc ++ [⟨k1, o1, s1, n1, l1⟩]) (some ⟨g2, 0, none⟩) cap6) := ⟨unhide HF2, by omega, by simp; omega, (unhide HR).go hN.1.gr hN.2, hN.1⟩
        have hln : (acc ++ [(⟨k1, o1, s1, n1, l1⟩ : PN)]).length = acc.length + 1 := by simp
        clear ho6 hg6 hw6 hN
        go_wp2_with fail
        go_roundw
        case rel => exact ⟨_, _, _, st4, j, by rw [hln], MN, by omega⟩
        case measure => rw [hm0, hm1]; omega
  · have e1 : st.takeS c = (true, st.next) := by unfold PS.takeS; rw [hb]; rfl
    rw [e1] at HT
    have e2 : opsP len ex f c st = ([], st.next) := by unfold opsP; rw [e1]
    rw [e2]
    clear e1 e2 hb hex hsh
    go_enter Tryz.func208, Tryz.ntmps208
    go_wp2_with (go_at_call 113; refine Calls.mono (unhide HT) ?_; rintro e w1 ⟨rfl, hs, hw⟩; have S1 := hide hs; have X1 := hide hw; clear hw hs)
    go_ret
    exact ⟨none, 0, rfl, Nat.le_refl _, by simp [RepNL], unhide S1, unhide X1⟩

end Go.Proofs.YtlgdjeiendmniaaGreatDoor

namespace Go.Proofs.YtlgdjeiendmniaaGreatDoor
open Go.RowKit

abbrev OpIs (g len : Nat) (c : ByteArray) (r : List PN × PS) (st : PS) (w : World) : Prop := ∀ W, Gr g w W → Rs W g len st → Calls Tryz.prog 208 #[.pointer (some ⟨g, 0, none⟩), .string c] W (Trees g len W r)

set_option maxHeartbeats 2000000 in
theorem list_any (len g : Nat) (ex : Rdr) (f : Nat) (st : PS) (w : World) (hR : Rs w g len st) (hop : OpIs g len ⟨#[93]⟩ (opsP len ex f ⟨#[93]⟩ ((st.enter len).sign len ⟨#[91]⟩)) ((st.enter len).sign len ⟨#[91]⟩) w) :
    Calls Tryz.prog 204 #[.pointer (some ⟨g, 0, none⟩)] w (Tree g len w (listP len ex f st)) := by
  have hg : g < w.heap.size := hR.st.lt
  unfold listP
  have HX := hide hop
  clear hop
  unfold OpIs at HX
  generalize opsP len ex f ⟨#[93]⟩ ((st.enter len).sign len ⟨#[91]⟩) = q at HX
  obtain ⟨l, st3⟩ := q
  have HE := hide (fun W (x : St W g len st) => enter_p len g st W x)
  have HG := hide (fun W (x : St W g len (st.enter len)) => psign_any len g (st.enter len) ⟨#[91]⟩ W x)
  have HR := hide hR
  clear hR
  go_enter_defers Tryz.func204, Tryz.ntmps204
  go_wp2_with (first
    | (go_at_call 115; refine Calls.mono (unhide HE _ ((unhide HR).st.alloc _)) ?_; rintro e w1 ⟨rfl, hs, hw⟩; have RB := hide (hw.row (Go.heap_alloc_new w _) (by omega)); have S1 := hide hs; have X1 := hide ((Gr.of (Ext.alloc _ _)).trans hw); clear hw hs)
    | (go_at_call 77; refine Calls.mono (unhide HG _ (unhide S1)) ?_; rintro e w2 ⟨rfl, hs, hw⟩; have RC := hide (hw.row (unhide RB) (by omega)); have S2 := hide hs; have X2 := hide ((unhide X1).trans hw); have hlt2 : w.heap.size < w2.heap.size := (Array.getElem?_eq_some_iff.1 (unhide RC)).1; clear hw hs)
    | (go_at_call 208; refine Calls.mono (unhide HX _ (unhide X2) ((unhide HR).go (unhide X2) (unhide S2))) ?_; rintro e w3 ⟨a, cap, rfl, hcap, hl, hs, hw⟩; have RD := hide (hw.row (unhide RC) (by omega)); have r0 := rowC (unhide RD) 0 rfl; have r1 := rowC (unhide RD) 1 rfl; have r2 := rowC (unhide RD) 2 rfl; have r3 := rowC (unhide RD) 3 rfl; have r4 := rowC (unhide RD) 4 rfl; have rz := rowF (unhide RD); have S3 := hide hs; have L3 := hide hl; have X3 := hide ((unhide X2).trans hw); clear hw hs hl))
  have T4 := tree_end hg (unhide S3) (unhide X3) hcap ((unhide L3).gr (Gr.refl g _) (by omega) hlt2) (k := 21) (o := 0) (n := 0) (s := emptyB)
  refine leaves_cons (f := 116) (args := #[.pointer (some ⟨g, 0, none⟩)]) (by simp) (by simp [go_sem]) ?_
  refine (leave_p len g _ .returning _ ((unhide S3).set5 hg _ _ _ _ _)).mono ?_
  rintro e u' w5 ⟨rfl, rfl, hs, hw⟩
  exact ⟨_, res_node rfl _ _ w.heap.size 21 0 emptyB 0 _ rfl (hw.row (set5_row (unhide RD) _ _ _ _ _) (by omega)), T4.gr hg hw hs⟩

set_option maxHeartbeats 2000000 in
theorem call_any (len g : Nat) (ex : Rdr) (f : Nat) (st : PS) (w : World) (hR : Rs w g len st) (hop : OpIs g len ⟨#[41]⟩ (opsP len ex f ⟨#[41]⟩ (((st.enter len).name len).2.sign len ⟨#[40]⟩)) (((st.enter len).name len).2.sign len ⟨#[40]⟩) w) :
    Calls Tryz.prog 206 #[.pointer (some ⟨g, 0, none⟩)] w (Tree g len w (callP len ex f st)) := by
  have hg : g < w.heap.size := hR.st.lt
  unfold callP
  have HX := hide hop
  clear hop
  unfold OpIs at HX
  generalize opsP len ex f ⟨#[41]⟩ (((st.enter len).name len).2.sign len ⟨#[40]⟩) = q at HX
  obtain ⟨l, st3⟩ := q
  have HE := hide (fun W (x : St W g len st) => enter_p len g st W x)
  have HN := hide (fun W (x : St W g len (st.enter len)) => name_p len g (st.enter len) W x)
  have HG := hide (fun W (x : St W g len ((st.enter len).name len).2) => psign_any len g ((st.enter len).name len).2 ⟨#[40]⟩ W x)
  generalize ((st.enter len).name len).1 = nm at HN ⊢
  have HR := hide hR
  clear hR
  go_enter_defers Tryz.func206, Tryz.ntmps206
  go_wp2_with (first
    | (go_at_call 115; refine Calls.mono (unhide HE _ ((unhide HR).st.alloc _)) ?_; rintro e w1 ⟨rfl, hs, hw⟩; have RB := hide (hw.row (Go.heap_alloc_new w _) (by omega)); have S1 := hide hs; have X1 := hide ((Gr.of (Ext.alloc _ _)).trans hw); clear hw hs)
    | (go_at_call 76; refine Calls.mono (unhide HN _ (unhide S1)) ?_; rintro e w1b ⟨rfl, hs, hw⟩; have RB2 := hide (hw.row (unhide RB) (by omega)); have S1b := hide hs; have X1b := hide ((unhide X1).trans hw); clear hw hs)
    | (go_at_call 77; refine Calls.mono (unhide HG _ (unhide S1b)) ?_; rintro e w2 ⟨rfl, hs, hw⟩; have RC := hide (hw.row (unhide RB2) (by omega)); have S2 := hide hs; have X2 := hide ((unhide X1b).trans hw); have hlt2 : w.heap.size < w2.heap.size := (Array.getElem?_eq_some_iff.1 (unhide RC)).1; clear hw hs)
    | (go_at_call 208; refine Calls.mono (unhide HX _ (unhide X2) ((unhide HR).go (unhide X2) (unhide S2))) ?_; rintro e w3 ⟨a, cap, rfl, hcap, hl, hs, hw⟩; have RD := hide (hw.row (unhide RC) (by omega)); have r0 := rowC (unhide RD) 0 rfl; have r1 := rowC (unhide RD) 1 rfl; have r2 := rowC (unhide RD) 2 rfl; have r3 := rowC (unhide RD) 3 rfl; have r4 := rowC (unhide RD) 4 rfl; have rz := rowF (unhide RD); have S3 := hide hs; have L3 := hide hl; have X3 := hide ((unhide X2).trans hw); clear hw hs hl))
  have T4 := tree_end hg (unhide S3) (unhide X3) hcap ((unhide L3).gr (Gr.refl g _) (by omega) hlt2) (k := 20) (o := 0) (n := 0) (s := nm)
  refine leaves_cons (f := 116) (args := #[.pointer (some ⟨g, 0, none⟩)]) (by simp) (by simp [go_sem]) ?_
  refine (leave_p len g _ .returning _ ((unhide S3).set5 hg _ _ _ _ _)).mono ?_
  rintro e u' w5 ⟨rfl, rfl, hs, hw⟩
  exact ⟨_, res_node rfl _ _ w.heap.size 20 0 nm 0 _ rfl (hw.row (set5_row (unhide RD) _ _ _ _ _) (by omega)), T4.gr hg hw hs⟩

end Go.Proofs.YtlgdjeiendmniaaGreatDoor

namespace Go.Proofs.YtlgdjeiendmniaaGreatDoor
open Go.RowKit

set_option maxHeartbeats 4000000 in
theorem sgl_any (len g : Nat) (ex : Rdr) (f : Nat) (st : PS) (w : World) (hR : Rs w g len st)
    (hbr : st.isS ⟨#[40]⟩ = true → ∀ W, Gr g w W → Rs W g len st → Calls Tryz.prog 201 #[.pointer (some ⟨g, 0, none⟩), .string ⟨#[41]⟩] W (Tree g len W (inBrP len ex ⟨#[41]⟩ st)))
    (hls : st.isS ⟨#[91]⟩ = true → ∀ W, Gr g w W → Rs W g len st → Calls Tryz.prog 204 #[.pointer (some ⟨g, 0, none⟩)] W (Tree g len W (listP len ex f st)))
    (hca : st.isCall = true → ∀ W, Gr g w W → Rs W g len st → Calls Tryz.prog 206 #[.pointer (some ⟨g, 0, none⟩)] W (Tree g len W (callP len ex f st))) :
    Calls Tryz.prog 200 #[.pointer (some ⟨g, 0, none⟩)] w (Tree g len w (sglP len ex f st)) := by
  have hg : g < w.heap.size := hR.st.lt
  unfold sglP
  have HS := hide (fun s W (x : Ext w W) => isSign_any len g st s W (hR.st.ext x))
  have HW := hide (fun s W (x : Ext w W) => isWord_p len g st s W (hR.st.ext x))
  have HC := hide (fun W (x : Ext w W) => isCall_any len g st W (hR.st.ext x))
  have HL := hide (fun W (x : Ext w W) => lit_any len g st W (hR.st.ext x))
  have HN := hide (fun W (x : Ext w W) => next_any len g st W (hR.st.ext x))
  have HR := hide hR
  have X : Hd (Ext (w.alloc (.cells #[.int .i64 0, .int .i64 0, .string ⟨#[]⟩, .int .i64 0, .slice none 0 0] 60)) (w.alloc (.cells #[.int .i64 0, .int .i64 0, .string ⟨#[]⟩, .int .i64 0, .slice none 0 0] 60))) := Ext.refl _
  have HB := hide hbr
  have HLS := hide hls
  have HCA := hide hca
  clear hR hbr hls hca
  cases b1 : st.isS ⟨#[40]⟩
  · rw [if_neg (by decide)]
    cases b2 : st.isS ⟨#[91]⟩
    · rw [if_neg (by decide)]
      cases b3 : st.isW ⟨#[110, 105, 108]⟩
      · rw [if_neg (by decide)]
        cases b4 : st.isCall
        · rw [if_neg (by decide)]
          have HX := hide (fun W (x : Ext w W) => unhide HL W x)
          generalize litP len st = q at HX
          obtain ⟨⟨k, o, s, n, l⟩, st3⟩ := q
          go_enter Tryz.func200, Tryz.ntmps200
          go_wp2_with (first
            | (go_at_call 114; refine Calls.mono (unhide HS _ _ ((Ext.alloc w _).trans (unhide X))) ?_; rintro e w1 ⟨rfl, hw⟩; replace X := hide ((unhide X).trans hw); clear hw)
            | (go_at_call 141; refine Calls.mono (unhide HW _ _ ((Ext.alloc w _).trans (unhide X))) ?_; rintro e w1 ⟨rfl, hw⟩; replace X := hide ((unhide X).trans hw); clear hw)
            | (go_at_call 205; refine Calls.mono (unhide HC _ ((Ext.alloc w _).trans (unhide X))) ?_; rintro e w1 ⟨rfl, hw⟩; replace X := hide ((unhide X).trans hw); clear hw)
            | (go_at_call 207; refine Calls.mono (unhide HX _ ((Ext.alloc w _).trans (unhide X))) ?_; rintro e w2 ⟨v, rfl, hr, hs, hw⟩; rw [RepN] at hr; obtain ⟨a, cap, rfl, hcap, hl⟩ := hr; have hlt := Nat.lt_of_lt_of_le (Nat.lt_succ_self w.heap.size) (Nat.le_trans (Nat.le_of_eq (size_alloc w _).symm) (unhide X).le); have RD := hide (hw.row ((unhide X).row (Go.heap_alloc_new w _)) (by omega)); have r0 := rowC (unhide RD) 0 rfl; have r1 := rowC (unhide RD) 1 rfl; have r2 := rowC (unhide RD) 2 rfl; have r3 := rowC (unhide RD) 3 rfl; have r4 := rowC (unhide RD) 4 rfl; have rz := rowF (unhide RD); have S3 := hide hs; have L3 := hide hl; have X3 := hide ((Gr.of ((Ext.alloc w _).trans (unhide X))).trans hw); clear hw hs hl))
          exact bodyPost_ret (v := nodV k o s n (.slice a l.length cap)) (by simp [results, Tryz.results200, go_sem, r0, r1, r2, r3, r4]) rfl (tree_end hg (unhide S3) (unhide X3) hcap ((unhide L3).gr (Gr.refl g _) (by omega) (by omega)) (k := k) (o := o) (n := n) (s := s))
        · rw [if_pos rfl]
          have HX := hide (unhide HCA b4)
          generalize callP len ex f st = q at HX
          obtain ⟨⟨k, o, s, n, l⟩, st3⟩ := q
          go_enter Tryz.func200, Tryz.ntmps200
          go_wp2_with (first
            | (go_at_call 114; refine Calls.mono (unhide HS _ _ ((Ext.alloc w _).trans (unhide X))) ?_; rintro e w1 ⟨rfl, hw⟩; replace X := hide ((unhide X).trans hw); clear hw)
            | (go_at_call 141; refine Calls.mono (unhide HW _ _ ((Ext.alloc w _).trans (unhide X))) ?_; rintro e w1 ⟨rfl, hw⟩; replace X := hide ((unhide X).trans hw); clear hw)
            | (go_at_call 205; refine Calls.mono (unhide HC _ ((Ext.alloc w _).trans (unhide X))) ?_; rintro e w1 ⟨rfl, hw⟩; replace X := hide ((unhide X).trans hw); clear hw)
            | (go_at_call 206; refine Calls.mono (unhide HX _ (Gr.of ((Ext.alloc w _).trans (unhide X))) ((unhide HR).ext ((Ext.alloc w _).trans (unhide X)))) ?_; rintro e w2 ⟨v, rfl, hr, hs, hw⟩; rw [RepN] at hr; obtain ⟨a, cap, rfl, hcap, hl⟩ := hr; have hlt := Nat.lt_of_lt_of_le (Nat.lt_succ_self w.heap.size) (Nat.le_trans (Nat.le_of_eq (size_alloc w _).symm) (unhide X).le); have RD := hide (hw.row ((unhide X).row (Go.heap_alloc_new w _)) (by omega)); have r0 := rowC (unhide RD) 0 rfl; have r1 := rowC (unhide RD) 1 rfl; have r2 := rowC (unhide RD) 2 rfl; have r3 := rowC (unhide RD) 3 rfl; have r4 := rowC (unhide RD) 4 rfl; have rz := rowF (unhide RD); have S3 := hide hs; have L3 := hide hl; have X3 := hide ((Gr.of ((Ext.alloc w _).trans (unhide X))).trans hw); clear hw hs hl))
          exact bodyPost_ret (v := nodV k o s n (.slice a l.length cap)) (by simp [results, Tryz.results200, go_sem, r0, r1, r2, r3, r4]) rfl (tree_end hg (unhide S3) (unhide X3) hcap ((unhide L3).gr (Gr.refl g _) (by omega) (by omega)) (k := k) (o := o) (n := n) (s := s))
      · rw [if_pos rfl]
        go_enter Tryz.func200, Tryz.ntmps200
        go_wp2_with (first
          | (go_at_call 114; refine Calls.mono (unhide HS _ _ ((Ext.alloc w _).trans (unhide X))) ?_; rintro e w1 ⟨rfl, hw⟩; replace X := hide ((unhide X).trans hw); clear hw)
          | (go_at_call 141; refine Calls.mono (unhide HW _ _ ((Ext.alloc w _).trans (unhide X))) ?_; rintro e w1 ⟨rfl, hw⟩; replace X := hide ((unhide X).trans hw); clear hw)
          | (go_at_call 112; refine Calls.mono (unhide HN _ ((Ext.alloc w _).trans (unhide X))) ?_; rintro e w2 ⟨rfl, hs, hw⟩; have hlt := Nat.lt_of_lt_of_le (Nat.lt_succ_self w.heap.size) (Nat.le_trans (Nat.le_of_eq (size_alloc w _).symm) (unhide X).le); have RD := hide (hw.row ((unhide X).row (Go.heap_alloc_new w _)) (by omega)); have r0 := rowC (unhide RD) 0 rfl; have r1 := rowC (unhide RD) 1 rfl; have r2 := rowC (unhide RD) 2 rfl; have r3 := rowC (unhide RD) 3 rfl; have r4 := rowC (unhide RD) 4 rfl; have rz := rowF (unhide RD); have S3 := hide hs; have X3 := hide ((Gr.of ((Ext.alloc w _).trans (unhide X))).trans hw); clear hw hs))
        exact bodyPost_ret (v := nodV 18 0 emptyB 0 (.slice none 0 0)) (by simp [results, Tryz.results200, go_sem, r0, r1, r2, r3, r4]) rfl (tree_end (l := []) hg (unhide S3) (unhide X3) (Nat.zero_le _) (by simp [RepNL]))
    · rw [if_pos rfl]
      have HX := hide (unhide HLS b2)
      generalize listP len ex f st = q at HX
      obtain ⟨⟨k, o, s, n, l⟩, st3⟩ := q
      go_enter Tryz.func200, Tryz.ntmps200
      go_wp2_with (first
        | (go_at_call 114; refine Calls.mono (unhide HS _ _ ((Ext.alloc w _).trans (unhide X))) ?_; rintro e w1 ⟨rfl, hw⟩; replace X := hide ((unhide X).trans hw); clear hw)
        | (go_at_call 204; refine Calls.mono (unhide HX _ (Gr.of ((Ext.alloc w _).trans (unhide X))) ((unhide HR).ext ((Ext.alloc w _).trans (unhide X)))) ?_; rintro e w2 ⟨v, rfl, hr, hs, hw⟩; rw [RepN] at hr; obtain ⟨a, cap, rfl, hcap, hl⟩ := hr; have hlt := Nat.lt_of_lt_of_le (Nat.lt_succ_self w.heap.size) (Nat.le_trans (Nat.le_of_eq (size_alloc w _).symm) (unhide X).le); have RD := hide (hw.row ((unhide X).row (Go.heap_alloc_new w _)) (by omega)); have r0 := rowC (unhide RD) 0 rfl; have r1 := rowC (unhide RD) 1 rfl; have r2 := rowC (unhide RD) 2 rfl; have r3 := rowC (unhide RD) 3 rfl; have r4 := rowC (unhide RD) 4 rfl; have rz := rowF (unhide RD); have S3 := hide hs; have L3 := hide hl; have X3 := hide ((Gr.of ((Ext.alloc w _).trans (unhide X))).trans hw); clear hw hs hl))
      exact bodyPost_ret (v := nodV k o s n (.slice a l.length cap)) (by simp [results, Tryz.results200, go_sem, r0, r1, r2, r3, r4]) rfl (tree_end hg (unhide S3) (unhide X3) hcap ((unhide L3).gr (Gr.refl g _) (by omega) (by omega)) (k := k) (o := o) (n := n) (s := s))
  · rw [if_pos rfl]
    have HX := hide (unhide HB b1)
    generalize inBrP len ex ⟨#[41]⟩ st = q at HX
    obtain ⟨⟨k, o, s, n, l⟩, st3⟩ := q
    go_enter Tryz.func200, Tryz.ntmps200
    go_wp2_with (first
      | (go_at_call 114; refine Calls.mono (unhide HS _ _ ((Ext.alloc w _).trans (unhide X))) ?_; rintro e w1 ⟨rfl, hw⟩; replace X := hide ((unhide X).trans hw); clear hw)
      | (go_at_call 201; refine Calls.mono (unhide HX _ (Gr.of ((Ext.alloc w _).trans (unhide X))) ((unhide HR).ext ((Ext.alloc w _).trans (unhide X)))) ?_; rintro e w2 ⟨v, rfl, hr, hs, hw⟩; rw [RepN] at hr; obtain ⟨a, cap, rfl, hcap, hl⟩ := hr; have hlt := Nat.lt_of_lt_of_le (Nat.lt_succ_self w.heap.size) (Nat.le_trans (Nat.le_of_eq (size_alloc w _).symm) (unhide X).le); have RD := hide (hw.row ((unhide X).row (Go.heap_alloc_new w _)) (by omega)); have r0 := rowC (unhide RD) 0 rfl; have r1 := rowC (unhide RD) 1 rfl; have r2 := rowC (unhide RD) 2 rfl; have r3 := rowC (unhide RD) 3 rfl; have r4 := rowC (unhide RD) 4 rfl; have rz := rowF (unhide RD); have S3 := hide hs; have L3 := hide hl; have X3 := hide ((Gr.of ((Ext.alloc w _).trans (unhide X))).trans hw); clear hw hs hl))
    exact bodyPost_ret (v := nodV k o s n (.slice a l.length cap)) (by simp [results, Tryz.results200, go_sem, r0, r1, r2, r3, r4]) rfl (tree_end hg (unhide S3) (unhide X3) hcap ((unhide L3).gr (Gr.refl g _) (by omega) (by omega)) (k := k) (o := o) (n := n) (s := s))

end Go.Proofs.YtlgdjeiendmniaaGreatDoor
