/- Laws of no program: an append that tells where the row lies behind it; a call of a function and an append as steps of a region that draws its order; rows of five cells a value. -/
import Derived.Test.YtbkncdjmodeabaaVal
import Derived.Deep.RegionLawGrows
import Derived.OwnWalk
set_option linter.unusedSimpArgs false
namespace Go.Proofs.Ytbkncdjmodeabaa
open Go.RowKit

section
variable {P : Program} {w : World}

/-- An append onto a row of the call's own: it stays where it is, or lies in a block that is new. -/
theorem run_append_where (base : Nat) (t ty e : TypeId) (i : TypeInfo) (z : Value) (size bytes : Nat) (ht : P.underlying t = some (.slice e)) (hi : P.info? e = some i) (hz : i.zero = some z)
    (hsize : i.size = size) (hby : i.bytes = bytes) (hzs : z.cells.size = size) (hsz : 0 < size)
    (ao : Option Addr) (n cap : Nat) (xs : List Value) (hown : w.ownsRow base e size (.slice ao n cap) n xs)
    (a : Addr) (m c : Nat) (news : List Value) (hm : 0 < m) (hl : news.length = m * size) (hnews : ∀ j u, news[j]? = some u → w.cell? (a.add j) = some u) (h1 : ∀ u ∈ news, u.oneCell' = true)
    (h63 : n + m ≤ maxLen) (hbytes : (n + m) * bytes ≤ 140737488355328) (hbase : base ≤ w.heap.size) :
    ∃ g' cap' w', (Builtin.append_ #[t, t] ty #[.slice ao n cap, .slice (some a) m c]).run P w = .ok (.slice (some ⟨g', 0, none⟩) (n + m) cap') w' ∧ w'.ownsRow base e size (.slice (some ⟨g', 0, none⟩) (n + m) cap') (n + m) (xs ++ news) ∧
      w.grownBy w' (Value.slice ao n cap).ownBlock ∧ ((Value.slice ao n cap).ownBlock = some g' ∨ w.heap.size ≤ g') := by
  obtain ⟨v', w', hrun, ho, hg, _⟩ := run_append_own (P := P) w base t ty e i z size bytes ht hi hz hsize hby hzs hsz (.slice ao n cap) n xs hown a m c news hl hnews h1 h63 hbytes hbase
  have hv : ∃ g' cap', v' = .slice (some ⟨g', 0, none⟩) (n + m) cap' := by
    rcases ho.2 with ⟨_, h0⟩ | ⟨g', cap', cur, hv, _⟩
    · omega
    · exact ⟨g', cap', hv⟩
  obtain ⟨g', cap', rfl⟩ := hv
  refine ⟨g', cap', w', hrun, ho, hg, ?_⟩
  rcases hown.2 with ⟨hn, h0⟩ | ⟨g, cap2, cur, hn, hb, hgg, hnc, hcm, hcs, htake⟩
  · injection hn with e1 e2 e3
    subst e1 e2 e3
    obtain ⟨v2, w2, hrun2, ho2, _⟩ := run_append_own (P := P) w w.heap.size t ty e i z size bytes ht hi hz hsize hby hzs hsz (.slice none 0 0) 0 [] (World.ownsRow_nil w _ e size) a m c news hl hnews h1 h63 hbytes (Nat.le_refl _)
    rw [hrun] at hrun2
    injection hrun2 with e1 e2
    subst e1
    have := ho2.lt g' rfl
    exact Or.inr this.1
  · injection hn with e1 e2 e3
    subst e1 e3
    by_cases hr : n + m ≤ cap
    · subst hsize
      have hrun2 := run_append_room (P := P) w t ty e i ht hi g n cap cur hgg a m c news hl hnews h1 hr (by rw [hl, ← Nat.add_mul, hcs]; exact Nat.mul_le_mul_right _ hr)
      rw [hrun] at hrun2
      injection hrun2 with e1 e2
      injection e1 with e1 _ _
      injection e1 with e1
      injection e1 with e1
      subst e1
      exact Or.inl rfl
    · obtain ⟨v2, w2, hrun2, ho2, _⟩ := run_append_arg_grows (P := P) w t ty e i z size bytes ht hi hz hsize hby hzs hsz ⟨g, 0, none⟩ n cap xs hown.1 (hown.cells rfl) a m c news hl hnews (by omega) h63 hbytes
      rw [hrun] at hrun2
      injection hrun2 with e1 e2
      subst e1
      have := ho2.lt g' rfl
      exact Or.inr this.1

/-- The same as one step of a region that draws its order. -/
theorem step_append_where {ops : Array Oper} {o : Oper} {a : Act} {K : Act → World → Prop} {Q : Exit → Act → World → Prop} {E : Prop}
    (hg : o.guard = none) (s x : Operand) (t : TypeId) (hop : o.op = Op.call { callee := Callee.builtin Builtin.append, args := #[s, x], argTypes := #[t, t] })
    (base : Nat) (e : TypeId) (i : TypeInfo) (z : Value) (size bytes : Nat) (ht : P.underlying t = some (.slice e)) (hi : P.info? e = some i) (hz : i.zero = some z)
    (hsize : i.size = size) (hby : i.bytes = bytes) (hzs : z.cells.size = size) (hsz : 0 < size)
    (ao : Option Addr) (n cap : Nat) (xs : List Value) (hs : a.eval s = .slice ao n cap) (hown : w.ownsRow base e size (.slice ao n cap) n xs)
    (ad : Addr) (m c : Nat) (news : List Value) (hx : a.eval x = .slice (some ad) m c) (hm : 0 < m) (hl : news.length = m * size) (hnews : ∀ j u, news[j]? = some u → w.cell? (ad.add j) = some u) (h1 : ∀ u ∈ news, u.oneCell' = true)
    (h63 : n + m ≤ maxLen) (hbytes : (n + m) * bytes ≤ 140737488355328) (hbase : base ≤ w.heap.size)
    (hK : ∀ g' cap' w', w'.ownsRow base e size (.slice (some ⟨g', 0, none⟩) (n + m) cap') (n + m) (xs ++ news) → w.grownBy w' (Value.slice ao n cap).ownBlock → ((Value.slice ao n cap).ownBlock = some g' ∨ w.heap.size ≤ g') → K (a.put o.dst (.slice (some ⟨g', 0, none⟩) (n + m) cap')) w') :
    if Region.wanted o (yielded ops a.tmps) = true then Oper.wp P o a w K Q else E := by
  have hw : Region.wanted o (yielded ops a.tmps) = true := by simp [Region.wanted, hg]
  rw [if_pos hw]
  obtain ⟨g', cap', w', hrun, r1, r2, r3⟩ := run_append_where (P := P) (w := w) base t o.type e i z size bytes ht hi hz hsize hby hzs hsz ao n cap xs hown ad m c news hm hl hnews h1 h63 hbytes hbase
  unfold Oper.wp
  simp [execOp, hop, resolve, invoke, builtin, hs, hx, hrun, Result.andThen]
  exact hK g' cap' w' r1 r2 r3

/-- The same in a list of operations. -/
theorem wpList_append_where {ops : Array Oper} {rest : List Oper} {o : Oper} {a : Act} {Q : Exit → Act → World → Prop} (hgd : o.guard = none) (s x : Operand) (t : TypeId)
    (hop : o.op = .call { callee := .builtin .append, args := #[s, x], argTypes := #[t, t] })
    (base : Nat) (e : TypeId) (i : TypeInfo) (z : Value) (size bytes : Nat) (ht : P.underlying t = some (.slice e)) (hi : P.info? e = some i) (hz : i.zero = some z)
    (hsize : i.size = size) (hby : i.bytes = bytes) (hzs : z.cells.size = size) (hsz : 0 < size)
    (ao : Option Addr) (n cap : Nat) (xs : List Value) (hs : a.eval s = .slice ao n cap) (hown : w.ownsRow base e size (.slice ao n cap) n xs)
    (ad : Addr) (m c : Nat) (news : List Value) (hx : a.eval x = .slice (some ad) m c) (hm : 0 < m) (hl : news.length = m * size) (hnews : ∀ j u, news[j]? = some u → w.cell? (ad.add j) = some u) (h1 : ∀ u ∈ news, u.oneCell' = true)
    (h63 : n + m ≤ maxLen) (hbytes : (n + m) * bytes ≤ 140737488355328) (hbase : base ≤ w.heap.size)
    (h : ∀ g' cap' w', w'.ownsRow base e size (.slice (some ⟨g', 0, none⟩) (n + m) cap') (n + m) (xs ++ news) → w.grownBy w' (Value.slice ao n cap).ownBlock → ((Value.slice ao n cap).ownBlock = some g' ∨ w.heap.size ≤ g') → wpList P ops Q rest (a.put o.dst (.slice (some ⟨g', 0, none⟩) (n + m) cap')) w') : wpList P ops Q (o :: rest) a w := by
  refine wpList_plain hgd fun K hK => ?_
  obtain ⟨g', cap', w', hrun, r1, r2, r3⟩ := run_append_where (P := P) (w := w) base t o.type e i z size bytes ht hi hz hsize hby hzs hsz ao n cap xs hown ad m c news hm hl hnews h1 h63 hbytes hbase
  unfold Oper.wp
  simp [execOp, hop, resolve, invoke, builtin, hs, hx, hrun, Result.andThen]
  exact hK _ _ (h g' cap' w' r1 r2 r3)

/-- A call of a function of one argument as one step of a region that draws its order. -/
theorem step_call_one {ops : Array Oper} {o : Oper} {a : Act} {K : Act → World → Prop} {Q : Exit → Act → World → Prop} {E : Prop}
    (hg : o.guard = none) (f : FuncId) (x : Operand) (t : TypeId) (hop : o.op = Op.call { callee := Callee.value (.func f), args := #[x], argTypes := #[t] })
    (v : Value) (hx : a.eval x = v) (hf : (callFunc f #[v]).run P w = .ok (.enter f #[v]) w) (hK : Calls P f #[v] w fun e w' => ∃ u, e = .returned u ∧ K (a.put o.dst u) w') :
    if Region.wanted o (yielded ops a.tmps) = true then Oper.wp P o a w K Q else E := by
  have hw : Region.wanted o (yielded ops a.tmps) = true := by simp [Region.wanted, hg]
  rw [if_pos hw]
  have he : a.eval (.func f) = .func (.func f) #[] #[] := rfl
  unfold Oper.wp
  have hrun : (execOp a.eval o).run P w = .ok (.enter f #[v]) w := by
    simp [execOp, hop, resolve, invoke, hx, he, Result.andThen, Deferred.ofValue, hf]
  rw [hrun, Oper.upon_enter]
  refine hK.mono ?_
  rintro e w' ⟨u, rfl, h⟩
  exact h
end

/-! ### Rows of five cells a value -/

/-- The cells xs hold the values ps, one behind the other. -/
def Row5 (w : World) (F : Nat → Prop) : List PV → List Value → Prop
  | [], xs => xs = []
  | p :: ps, xs => ∃ a cap rest, xs = [.int .i64 p.k, .int .i64 p.n, .complex .f64 p.re p.im, .string p.s, .slice a p.l.length cap] ++ rest ∧ Bd p.k p.n p.re p.im p.s p.l.length cap ∧ RepL w F p.l a ∧ Row5 w F ps rest

theorem Row5.to {w w' : World} {F F' : Nat → Prop} (h : ∀ b, F b → F' b ∧ w'.heap[b]? = w.heap[b]?) : ∀ {ps : List PV} {xs : List Value}, Row5 w F ps xs → Row5 w' F' ps xs := by
  intro ps
  induction ps with
  | nil => intro xs hx; exact hx
  | cons p ps ih =>
    intro xs hx
    obtain ⟨a, cap, rest, e, hb, hl, hr⟩ := hx
    exact ⟨a, cap, rest, e, hb, RepL.to h _ _ hl, ih hr⟩

theorem Row5.snoc {w : World} {F : Nat → Prop} {p : PV} {a : Option Addr} {cap : Nat} (hb : Bd p.k p.n p.re p.im p.s p.l.length cap) (hl : RepL w F p.l a) :
    ∀ {ps : List PV} {xs : List Value}, Row5 w F ps xs → Row5 w F (ps ++ [p]) (xs ++ [.int .i64 p.k, .int .i64 p.n, .complex .f64 p.re p.im, .string p.s, .slice a p.l.length cap]) := by
  intro ps
  induction ps with
  | nil =>
    intro xs hx
    have : xs = [] := hx
    subst this
    exact ⟨a, cap, [], by simp, hb, hl, rfl⟩
  | cons q ps ih =>
    intro xs hx
    obtain ⟨a', cap', rest, e, hb', hl', hr⟩ := hx
    exact ⟨a', cap', rest ++ _, by rw [e]; simp, hb', hl', ih hr⟩

theorem Row5.repL {w : World} {F : Nat → Prop} {g : Nat} (hF : F g) : ∀ {ps : List PV} {xs : List Value} {off : Nat}, Row5 w F ps xs → (∀ j u, xs[j]? = some u → w.cell? ⟨g, off + j, none⟩ = some u) → RepL w F ps (some ⟨g, off, none⟩) := by
  intro ps
  induction ps with
  | nil => intro xs off _ _; simp [RepL]
  | cons p ps ih =>
    intro xs off hx hc
    obtain ⟨a, cap, rest, e, hb, hl, hr⟩ := hx
    subst e
    refine RepL.cons ⟨hF, by simpa using hc 0 _ rfl, hc 1 _ rfl, hc 2 _ rfl, hc 3 _ rfl, hc 4 _ rfl, hb, hl⟩ (ih hr fun j u hu => ?_)
    have := hc (5 + j) u (by rw [List.getElem?_append_right (by simp)]; simpa using hu)
    rw [Nat.add_assoc]; exact this

theorem cells_own {w : World} {base : Nat} {e : TypeId} {size n cap g : Nat} {xs : List Value} (h : w.ownsRow base e size (.slice (some ⟨g, 0, none⟩) n cap) n xs) : ∀ j u, xs[j]? = some u → w.cell? ⟨g, 0 + j, none⟩ = some u := by
  intro j u hu
  have := h.cells (g := g) rfl j u hu
  have hadd : (⟨g, 0, none⟩ : Addr).add j = ⟨g, 0 + j, none⟩ := by unfold Addr.add; split <;> simp_all
  rw [hadd] at this
  exact this

end Go.Proofs.Ytbkncdjmodeabaa
