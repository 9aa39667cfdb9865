/- Laws of no program, for the texts of graph: memory that was made; an append that tells where the row lies behind it; rows in blocks; loops by jumps. -/
import Derived.Test.YtjopfpchbakggaaChecked
import Derived.Test.YtjopfpchbakggaaGrP
import Derived.WalkKit
import Derived.WalkLawsBesides
import Derived.WalkSpells
import Derived.Below
import Derived.Deep.Draws
import Derived.Deep.RegionLawGrows
import Derived.OwnWalk
import Derived.Deep.LoopGhost
import Derived.Deep.QuietTactic
import Derived.BigQuiet
import Derived.ScopeJumps
set_option linter.unusedSimpArgs false
set_option linter.unusedVariables false
set_option maxRecDepth 10000
namespace Go.Proofs.Ytjopfpchbakggaa
open Go.RowKit

/-- A hypothesis that the walk shall not take for a rule. -/
def Hd (p : Prop) : Prop := p
theorem hide {p : Prop} (h : p) : Hd p := h
theorem unhide {p : Prop} (h : Hd p) : p := h

/-- Memory was made, nothing that stood there has turned. -/
def Ext (w w' : World) : Prop := Below w.heap.size w w'

theorem Ext.refl (w : World) : Ext w w := Below.refl _ _
theorem Ext.trans {a b c : World} (h : Ext a b) (k : Ext b c) : Ext a c := Below.trans h (Below.mono k h.size)
theorem Ext.alloc (w : World) (o : Obj) : Ext w (w.alloc o) := Below.alloc (Below.refl _ _) (Nat.le_refl _) o
theorem Ext.drew {a w : World} (h : Ext a w) : Ext a w.drew := Below.drew h
theorem Ext.le {w w' : World} (h : Ext w w') : w.heap.size ≤ w'.heap.size := h.size
theorem Ext.cell {w w' : World} (h : Ext w w') {a : Addr} {v : Value} (hc : w.cell? a = some v) : w'.cell? a = some v := by
  rw [Below.cell h (World.block_lt_of_cell? w a hc)]; exact hc
theorem Ext.row {w w' : World} (h : Ext w w') {b : Nat} {x : Obj} (hc : w.heap[b]? = some x) : w'.heap[b]? = some x :=
  (h.block b (Array.getElem?_eq_some_iff.1 hc).1).trans hc
theorem Ext.set {a w : World} (h : Ext a w) {p : Addr} (hp : a.heap.size ≤ p.block) (v : Value) : Ext a (w.setCell p v) := Below.setCell h hp v

theorem cell_box (w : World) (cs : Array Value) (t : TypeId) (i : Nat) {v : Value} (hi : cs[i]? = some v) : (w.alloc (.cells cs t)).cell? ⟨w.heap.size, i, none⟩ = some v := by
  rw [cell_of_row _ _ i cs t (0, 0) (Go.heap_alloc_new w _)]
  exact hi

section
variable {P : Program} {w : World}

/-- An append onto a row of the call's own: it stays where it is, or lies in a block that is new. -/
theorem kapp_run (base : Nat) (t ty e : TypeId) (i : TypeInfo) (z : Value) (size bytes : Nat) (ht : P.underlying t = some (.slice e)) (hi : P.info? e = some i) (hz : i.zero = some z)
    (hsize : i.size = size) (hby : i.bytes = bytes) (hzs : z.cells.size = size) (hsz : 0 < size)
    (ao : Option Addr) (n cap : Nat) (xs : List Value) (hown : w.ownsRow base e size (.slice ao n cap) n xs)
    (a : Addr) (m c : Nat) (news : List Value) (hm : 0 < m) (hl : news.length = m * size) (hnews : ∀ j u, news[j]? = some u → w.cell? (a.add j) = some u) (h1 : ∀ u ∈ news, u.oneCell' = true)
    (h63 : n + m ≤ maxLen) (hbytes : (n + m) * bytes ≤ 140737488355328) (hbase : base ≤ w.heap.size) :
    ∃ g' cap' w', (Builtin.append_ #[t, t] ty #[.slice ao n cap, .slice (some a) m c]).run P w = .ok (.slice (some ⟨g', 0, none⟩) (n + m) cap') w' ∧ w'.ownsRow base e size (.slice (some ⟨g', 0, none⟩) (n + m) cap') (n + m) (xs ++ news) ∧
      w.grownBy w' (Value.slice ao n cap).ownBlock ∧ ((Value.slice ao n cap).ownBlock = some g' ∨ w.heap.size ≤ g') := by
  obtain ⟨v', w', hrun, ho, hg, _⟩ := run_append_own (P := P) w base t ty e i z size bytes ht hi hz hsize hby hzs hsz (.slice ao n cap) n xs hown a m c news hl hnews h1 h63 hbytes hbase
  have hv : ∃ g' cap', v' = .slice (some ⟨g', 0, none⟩) (n + m) cap' := by
    rcases ho.2 with ⟨_, h0⟩ | ⟨g', cap', cur, hv, _⟩
    · omega
    · exact ⟨g', cap', hv⟩
  obtain ⟨g', cap', rfl⟩ := hv
  refine ⟨g', cap', w', hrun, ho, hg, ?_⟩
  rcases hown.2 with ⟨hn, h0⟩ | ⟨g, cap2, cur, hn, hb, hgg, hnc, hcm, hcs, htake⟩
  · injection hn with e1 e2 e3
    subst e1 e2 e3
    obtain ⟨v2, w2, hrun2, ho2, _⟩ := run_append_own (P := P) w w.heap.size t ty e i z size bytes ht hi hz hsize hby hzs hsz (.slice none 0 0) 0 [] (World.ownsRow_nil w _ e size) a m c news hl hnews h1 h63 hbytes (Nat.le_refl _)
    rw [hrun] at hrun2
    injection hrun2 with e1 e2
    subst e1
    have := ho2.lt g' rfl
    exact Or.inr this.1
  · injection hn with e1 e2 e3
    subst e1 e3
    by_cases hr : n + m ≤ cap
    · subst hsize
      have hrun2 := run_append_room (P := P) w t ty e i ht hi g n cap cur hgg a m c news hl hnews h1 hr (by rw [hl, ← Nat.add_mul, hcs]; exact Nat.mul_le_mul_right _ hr)
      rw [hrun] at hrun2
      injection hrun2 with e1 e2
      injection e1 with e1 _ _
      injection e1 with e1
      injection e1 with e1
      subst e1
      exact Or.inl rfl
    · obtain ⟨v2, w2, hrun2, ho2, _⟩ := run_append_arg_grows (P := P) w t ty e i z size bytes ht hi hz hsize hby hzs hsz ⟨g, 0, none⟩ n cap xs hown.1 (hown.cells rfl) a m c news hl hnews (by omega) h63 hbytes
      rw [hrun] at hrun2
      injection hrun2 with e1 e2
      subst e1
      have := ho2.lt g' rfl
      exact Or.inr this.1

/-- The same in a list of operations. -/
theorem kapp_list {ops : Array Oper} {rest : List Oper} {o : Oper} {a : Act} {Q : Exit → Act → World → Prop} (hgd : o.guard = none) (s x : Operand) (t : TypeId)
    (hop : o.op = .call { callee := .builtin .append, args := #[s, x], argTypes := #[t, t] })
    (base : Nat) (e : TypeId) (i : TypeInfo) (z : Value) (size bytes : Nat) (ht : P.underlying t = some (.slice e)) (hi : P.info? e = some i) (hz : i.zero = some z)
    (hsize : i.size = size) (hby : i.bytes = bytes) (hzs : z.cells.size = size) (hsz : 0 < size)
    (ao : Option Addr) (n cap : Nat) (xs : List Value) (hs : a.eval s = .slice ao n cap) (hown : w.ownsRow base e size (.slice ao n cap) n xs)
    (ad : Addr) (m c : Nat) (news : List Value) (hx : a.eval x = .slice (some ad) m c) (hm : 0 < m) (hl : news.length = m * size) (hnews : ∀ j u, news[j]? = some u → w.cell? (ad.add j) = some u) (h1 : ∀ u ∈ news, u.oneCell' = true)
    (h63 : n + m ≤ maxLen) (hbytes : (n + m) * bytes ≤ 140737488355328) (hbase : base ≤ w.heap.size)
    (h : ∀ g' cap' w', w'.ownsRow base e size (.slice (some ⟨g', 0, none⟩) (n + m) cap') (n + m) (xs ++ news) → w.grownBy w' (Value.slice ao n cap).ownBlock → ((Value.slice ao n cap).ownBlock = some g' ∨ w.heap.size ≤ g') → wpList P ops Q rest (a.put o.dst (.slice (some ⟨g', 0, none⟩) (n + m) cap')) w') : wpList P ops Q (o :: rest) a w := by
  refine wpList_plain hgd fun K hK => ?_
  obtain ⟨g', cap', w', hrun, r1, r2, r3⟩ := kapp_run (P := P) (w := w) base t o.type e i z size bytes ht hi hz hsize hby hzs hsz ao n cap xs hown ad m c news hm hl hnews h1 h63 hbytes hbase
  unfold Oper.wp
  simp [execOp, hop, resolve, invoke, builtin, hs, hx, hrun, Result.andThen]
  exact hK _ _ (h g' cap' w' r1 r2 r3)

/-- Out by the normal way alone. -/
def KNrm (Q : Exit → Act → World → Prop) : Exit → Act → World → Prop
  | .normal, a, w => Q .normal a w
  | _, _, _ => False
theorem k_nrm {c : Code} {Q : Exit → Act → World → Prop} {a : Act} (h : c.wp P (KNrm Q) a w) : c.wp P Q a w :=
  Code.wp_mono (fun e a w hq => by cases e <;> first | exact hq | exact hq.elim) h

theorem k_least (p : Nat → Prop) (h : ∃ n, p n) : ∃ n, p n ∧ ∀ m, p m → n ≤ m := by
  obtain ⟨n, hn⟩ := h
  induction n using Nat.strongRecOn with
  | _ n ih =>
    by_cases hm : ∃ m, m < n ∧ p m
    · obtain ⟨m, h1, h2⟩ := hm
      exact ih m h1 h2
    · exact ⟨n, hn, fun m hp => Nat.le_of_not_lt fun h => hm ⟨m, h, hp⟩⟩

/-- A loop by a jump back, its measure the proof's own. -/
theorem k_scope_loop {a : Act} {Q : Exit → Act → World → Prop} {c rest : Code} (l : Nat) (J : Nat → Act → World → Prop) (hf : findLabel c l = some (Code.skip.seq rest))
    (pass : ∀ k a w, J k a w → rest.wp P (Exit.jump l (fun a' w' => ∃ k', k' < k ∧ J k' a' w') Q) a w)
    (first : (∀ k a w, J k a w → rest.wp P (Exit.jump l (fun a' w' => ∃ k, J k a' w') Q) a w) → c.wp P (Exit.jump l (fun a' w' => ∃ k, J k a' w') Q) a w) : (Code.scope c).wp P Q a w := by
  refine wp_scope_jumps l (fun a' w' => ∃ k, J k a' w') (fun a w => Classical.epsilon (fun k => J k a w ∧ ∀ m, J m a w → k ≤ m)) hf (first fun k a w h => ?_) ?_
  · refine Code.wp_mono ?_ (pass k a w h)
    intro e a' w' h
    cases e <;> first | exact h | (obtain ⟨h1, k', _, h2⟩ := h; exact ⟨h1, k', h2⟩)
  · intro a w h
    refine wp_seq (wp_skip ?_)
    have hs := Classical.epsilon_spec (k_least _ h)
    refine Code.wp_mono ?_ (pass _ a w hs.1)
    intro e a' w' h
    cases e
    case goto =>
      obtain ⟨h1, k', h3, h2⟩ := h
      refine ⟨h1, ⟨k', h2⟩, ?_⟩
      have ht := Classical.epsilon_spec (k_least (fun k => J k a' w') ⟨k', h2⟩)
      exact Nat.lt_of_le_of_lt (ht.2 k' h2) h3
    all_goals exact h
end

theorem k_row_set {w : World} {g : Nat} {cs : Array Value} {t : TypeId} (h : w.heap[g]? = some (.cells cs t (0, 0))) (i : Nat) (v : Value) : (w.setCell ⟨g, i, none⟩ v).heap[g]? = some (.cells (cs.setIfInBounds i v) t (0, 0)) := by
  simp [World.setCell, Array.getElem?_modify, h]
theorem k_row_other {w : World} {g b : Nat} {x : Option Obj} (h : w.heap[g]? = x) (hne : g ≠ b) (i : Nat) (v : Value) : (w.setCell ⟨b, i, none⟩ v).heap[g]? = x :=
  (Below.heap_setCell _ _ _ _ hne).trans h
theorem k_rowC {w : World} {g : Nat} {cs : Array Value} {t : TypeId} (h : w.heap[g]? = some (.cells cs t (0, 0))) (i : Nat) {v : Value} (hi : cs[i]? = some v) : w.cell? ⟨g, i, none⟩ = some v := by
  rw [cell_of_row _ _ i cs t (0, 0) h]; exact hi
theorem k_rowF {w : World} {g : Nat} {cs : Array Value} {t : TypeId} (h : w.heap[g]? = some (.cells cs t (0, 0))) (i : Nat) : w.frozen? ⟨g, i, none⟩ = false := by
  simp only [World.frozen?, h]; simp
theorem k_lt {w : World} {g : Nat} {o : Obj} (h : w.heap[g]? = some o) : g < w.heap.size := (Array.getElem?_eq_some_iff.1 h).1
theorem k_grown_set (w : World) (R i : Nat) (v : Value) : w.grownBy (w.setCell ⟨R, i, none⟩ v) (some R) :=
  ⟨rfl, rfl, rfl, by simp [World.setCell], fun j _ hne => Below.heap_setCell _ _ _ _ (fun e => hne (by rw [e]))⟩
theorem k_own_heap {w W : World} {base : Nat} {t : TypeId} {size : Nat} {v : Value} {n : Nat} {xs : List Value} (h : w.ownsRow base t size v n xs) (e : ∀ k, v.ownBlock = some k → W.heap[k]? = w.heap[k]?) : W.ownsRow base t size v n xs := by
  obtain ⟨h1, h2⟩ := h
  refine ⟨h1, ?_⟩
  rcases h2 with h2 | ⟨g, cap, cur, rfl, hb, hg, r⟩
  · exact Or.inl h2
  · exact Or.inr ⟨g, cap, cur, rfl, hb, (e g rfl).trans hg, r⟩
theorem k_own_prefix {w : World} {base : Nat} {t : TypeId} {size : Nat} {a : Option Addr} {n m cap : Nat} {xs : List Value} (h : w.ownsRow base t size (.slice a n cap) n xs) (hm : m ≤ n) : w.ownsRow base t size (.slice a m cap) m (xs.take (m * size)) := by
  obtain ⟨h1, h2⟩ := h
  have hmul : m * size ≤ n * size := Nat.mul_le_mul_right _ hm
  refine ⟨by simp; omega, ?_⟩
  rcases h2 with ⟨e, h0⟩ | ⟨g, cap2, cur, e, hb, hg, hn, hcm, hcs, ht⟩
  · injection e with e1 e2 e3
    subst e1 e3
    have : m = 0 := by omega
    subst this
    exact Or.inl ⟨rfl, rfl⟩
  · injection e with e1 e2 e3
    subst e1 e3
    refine Or.inr ⟨g, cap, cur, rfl, hb, hg, by omega, hcm, hcs, ?_⟩
    rw [← ht, List.take_take, Nat.min_eq_left hmul]
theorem k_info : ∃ i0, Try.prog.info? 3 = some i0 ∧ i0.zero = some (.int .i64 0) ∧ i0.size = 1 ∧ i0.bytes = 8 := by
  have h : (Try.prog.info? 3).map (fun i => (i.zero, i.size, i.bytes)) = some (some (.int .i64 0), 1, 8) := by kernel_rfl
  cases hi : Try.prog.info? 3 with
  | none => rw [hi] at h; cases h
  | some i =>
    rw [hi] at h
    simp at h
    exact ⟨i, rfl, h.1, h.2.1, h.2.2⟩
theorem k_one_int (x : Int) : ∀ u ∈ ([.int .i64 x] : List Value), u.oneCell' = true := by
  intro u hu
  simp at hu
  subst hu
  rfl
theorem k_add (g j : Nat) : (⟨g, 0, none⟩ : Addr).add j = ⟨g, j, none⟩ := by simp [Addr.add]; omega
theorem k_new (W : World) (b : Nat) (hb : b = W.heap.size) (xs : List Value) (t : TypeId) : ∀ (j : Nat) (u : Value), xs[j]? = some u → (W.alloc (.cells xs.toArray t)).cell? ((⟨b, 0, none⟩ : Addr).add j) = some u := by
  subst hb
  intro j u hu
  have : (⟨W.heap.size, 0, none⟩ : Addr).add j = ⟨W.heap.size, j, none⟩ := by simp [Addr.add]; omega
  rw [this]
  exact cell_box W _ t j (by simpa using hu)

/-- Numbers as cells. -/
abbrev zs (l : List Int) : List Value := l.map (fun x => Value.int .i64 x)
abbrev ns (l : List Nat) : List Value := l.map (fun (x : Nat) => Value.int .i64 (x : Int))
theorem made_zeros (n : Nat) : madeCells #[Value.int .i64 0] (n * 1) = (zs (List.replicate n 0)).toArray := by
  apply Array.ext
  · simp [madeCells, zs]
  · intro i h1 h2
    simp [madeCells, zs]
    rw [show i % 1 = 0 from Nat.mod_one i]
    rfl
/-- make([]int, n). -/
theorem make_ints (n : Nat) (hn : n ≤ 1000000) (w : World) : (Instr.makeSlice 41 (.int .i64 (n : Int)) (.int .i64 (n : Int))).run Try.prog w = .ok (.slice (some ⟨w.heap.size, 0, none⟩) n n) (w.alloc (.cells (zs (List.replicate n 0)).toArray 3)) := by
  obtain ⟨i0, hi, hz, hs, hb⟩ := k_info
  have h := run_make (P := Try.prog) w 41 3 i0 (.int .i64 0) Try.underlying41 hi hz .i64 .i64 n n (by omega) (by omega) (by rw [hb]; omega) (by omega)
  rw [hs] at h
  simp only [Int.toNat_natCast] at h
  rw [h]
  have e := made_zeros n
  rw [show (Value.int .i64 0).cells = #[Value.int .i64 0] from rfl, e]



/-- Jumps as J says; else as Q says. -/
def KJump (J : Nat → Act → World → Prop) (Q : Exit → Act → World → Prop) : Exit → Act → World → Prop
  | .goto l, a, w => J l a w
  | e, a, w => Q e a w

theorem k_scope_many {P : Program} {a : Act} {w : World} {Q : Exit → Act → World → Prop} {c : Code} (J : Nat → Nat → Act → World → Prop) (R : Nat → Code) (hf : ∀ l k a w, J l k a w → findLabel c l = some (R l))
    (first : c.wp P (KJump (fun l a w => ∃ k, J l k a w) Q) a w)
    (pass : ∀ l k a w, J l k a w → (R l).wp P (KJump (fun l' a' w' => ∃ k', k' < k ∧ J l' k' a' w') Q) a w) : (Code.scope c).wp P Q a w := by
  intro b k cs
  have key : ∀ n l a w, J l n a w → ∃ e a' w', Q e a' w' ∧ Arrives P (lone (b.at a (.code (R l) :: .inScope c :: k)) cs w) b k cs e a' w' := by
    intro n
    induction n using Nat.strongRecOn with
    | _ n ih =>
      intro l a w hJ
      obtain ⟨e, a₁, w₁, hq, harr⟩ := pass l n a w hJ b (.inScope c :: k) cs
      cases e with
      | normal => exact ⟨.normal, a₁, w₁, hq, Steps.trans harr (.one step_inScope)⟩
      | exit id => exact ⟨.exit id, a₁, w₁, hq, fun k' hk => harr k' (by simp [exitTo, hk])⟩
      | goto l' =>
        obtain ⟨n', hlt, hJ'⟩ := hq
        obtain ⟨e₂, a₂, w₂, hq₂, harr₂⟩ := ih n' hlt l' a₁ w₁ hJ'
        have hg : gotoIn l' (.inScope c :: k) = some (.code (R l') :: .inScope c :: k) := by simp [gotoIn, hf l' n' a₁ w₁ hJ']
        exact ⟨e₂, a₂, w₂, hq₂, .of_steps (harr _ hg) harr₂⟩
      | ret => exact ⟨_, a₁, w₁, hq, harr⟩
      | panic ch => exact ⟨_, a₁, w₁, hq, harr⟩
      | outgrown => exact ⟨_, a₁, w₁, hq, harr⟩
  obtain ⟨e, a₁, w₁, hq, harr⟩ := first b (.inScope c :: k) cs
  cases e with
  | normal => exact ⟨.normal, a₁, w₁, hq, .head step_scope (Steps.trans harr (.one step_inScope))⟩
  | exit id => exact ⟨.exit id, a₁, w₁, hq, fun k' hk => .head step_scope (harr k' (by simp [exitTo, hk]))⟩
  | goto l' =>
    obtain ⟨n', hJ'⟩ := hq
    obtain ⟨e₂, a₂, w₂, hq₂, harr₂⟩ := key n' l' a₁ w₁ hJ'
    have hg : gotoIn l' (.inScope c :: k) = some (.code (R l') :: .inScope c :: k) := by simp [gotoIn, hf l' n' a₁ w₁ hJ']
    exact ⟨e₂, a₂, w₂, hq₂, .of_steps (.head step_scope (harr _ hg)) harr₂⟩
  | ret => exact ⟨_, a₁, w₁, hq, .of_steps (.one step_scope) harr⟩
  | panic ch => exact ⟨_, a₁, w₁, hq, .of_steps (.one step_scope) harr⟩
  | outgrown => exact ⟨_, a₁, w₁, hq, .of_steps (.one step_scope) harr⟩

/-- A jump back to l1 or out to l0. -/
def KTwo (l1 l0 : Nat) (J1 J0 : Act → World → Prop) (Q : Exit → Act → World → Prop) : Exit → Act → World → Prop
  | .goto l, a, w => (l = l1 ∧ J1 a w) ∨ (l = l0 ∧ J0 a w)
  | e, a, w => Q e a w
theorem KTwo.imp {l1 l0 : Nat} {J1 J1' J0 : Act → World → Prop} {Q : Exit → Act → World → Prop} (h : ∀ a w, J1 a w → J1' a w) : ∀ e a w, KTwo l1 l0 J1 J0 Q e a w → KTwo l1 l0 J1' J0 Q e a w := by
  intro e a w hq
  cases e with
  | goto l => exact Or.imp (fun x => ⟨x.1, h a w x.2⟩) id hq
  | _ => exact hq

theorem k_scope_two {P : Program} {a : Act} {w : World} {Q : Exit → Act → World → Prop} {c rest1 rest0 : Code} (l1 l0 : Nat) (hne : l0 ≠ l1) (J1 : Nat → Act → World → Prop) (J0 : Act → World → Prop)
    (hf1 : findLabel c l1 = some (Code.skip.seq rest1)) (hf0 : findLabel c l0 = some (Code.skip.seq rest0))
    (pass1 : ∀ k a w, J1 k a w → rest1.wp P (KTwo l1 l0 (fun a' w' => ∃ k', k' < k ∧ J1 k' a' w') J0 Q) a w)
    (pass0 : ∀ a w, J0 a w → rest0.wp P (Exit.noGoto Q) a w)
    (first : (∀ k a w, J1 k a w → rest1.wp P (KTwo l1 l0 (fun a' w' => ∃ k, J1 k a' w') J0 Q) a w) → c.wp P (KTwo l1 l0 (fun a' w' => ∃ k, J1 k a' w') J0 Q) a w) : (Code.scope c).wp P Q a w := by
  refine k_scope_many (fun l k a w => (l = l1 ∧ ∃ k1, k = k1 + 1 ∧ J1 k1 a w) ∨ (l = l0 ∧ k = 0 ∧ J0 a w)) (fun l => if l = l1 then Code.skip.seq rest1 else Code.skip.seq rest0) ?_ ?_ ?_
  · rintro l k a w (⟨rfl, _⟩ | ⟨rfl, _⟩)
    · rw [if_pos rfl]; exact hf1
    · rw [if_neg hne]; exact hf0
  · refine Code.wp_mono ?_ (first fun k a w h => by
      refine Code.wp_mono (KTwo.imp ?_) (pass1 k a w h)
      rintro a w ⟨k', _, h⟩
      exact ⟨k', h⟩)
    intro e a w hq
    cases e with
    | goto l =>
      rcases hq with ⟨e, k, h⟩ | ⟨e, h⟩
      · exact ⟨k + 1, Or.inl ⟨e, k, rfl, h⟩⟩
      · exact ⟨0, Or.inr ⟨e, rfl, h⟩⟩
    | _ => exact hq
  · rintro l k a w (⟨rfl, k1, rfl, h⟩ | ⟨rfl, rfl, h⟩)
    · rw [if_pos rfl]
      refine wp_seq (wp_skip (Code.wp_mono ?_ (pass1 k1 a w h)))
      intro e a w hq
      cases e with
      | goto l =>
        rcases hq with ⟨e, k, hk, h⟩ | ⟨e, h⟩
        · exact ⟨k + 1, by omega, Or.inl ⟨e, k, rfl, h⟩⟩
        · exact ⟨0, by omega, Or.inr ⟨e, rfl, h⟩⟩
      | _ => exact hq
    · rw [if_neg hne]
      refine wp_seq (wp_skip (Code.wp_mono ?_ (pass0 a w h)))
      intro e a w hq
      cases e with
      | goto l => exact hq.elim
      | _ => exact hq


end Go.Proofs.Ytjopfpchbakggaa
