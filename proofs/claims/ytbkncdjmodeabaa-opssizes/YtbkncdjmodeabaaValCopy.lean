/- What a copy of a value is, a text and a list as values: each in memory of its own. -/
import Derived.Test.YtbkncdjmodeabaaValMake
import Derived.Test.YtbkncdjmodeabaaValLaw
import Derived.Test.YtbkncdjmodeabaaShelf
set_option linter.unusedSimpArgs false
set_option maxRecDepth 10000
namespace Go.Proofs.Ytbkncdjmodeabaa
open Go.RowKit

theorem infoV : (Try.prog.info? 25).map (fun i => (i.zero, i.size, i.bytes)) = some (some nilV, 5, 72) := by kernel_rfl

theorem clone_any (s : ByteArray) (w : World) (hs : s.size ≤ 140737488355328) :
    Calls Try.prog 86 #[.string s] w fun e w' => e = .returned (.string s) ∧ Ext w w' := by
  have hc := fun w => Try.stringslite_Clone s w (by omega)
  have C := hide hc
  clear hc
  go_enter Try.func86, Try.ntmps86
  go_wp2_with (go_at_call 90; refine Calls.mono (unhide C _) ?_; rintro e w' ⟨rfl, hw⟩)
  go_ret
  exact ⟨rfl, hw⟩

mutual
/-- What a copy keeps of a value: what its kind uses. -/
def norm : PV → PV
  | .mk k n re im s l => if k = 1 then .mk 1 n 0 0 ⟨#[]⟩ [] else if k = 2 then .mk 2 0 re im ⟨#[]⟩ [] else if k = 3 then .mk 3 0 0 0 s [] else if k = 4 then .mk 4 0 0 0 ⟨#[]⟩ (normL l) else nilP
def normL : List PV → List PV
  | [] => []
  | x :: xs => norm x :: normL xs
end

theorem normL_map : ∀ l, normL l = l.map norm
  | [] => rfl
  | x :: xs => by rw [normL, normL_map xs]; rfl

/-- The blocks that were made since. -/
def Fresh (w w' : World) : Nat → Prop := fun b => w.heap.size ≤ b ∧ b < w'.heap.size

theorem Fresh.in {w w' : World} {p : PV} {v : Value} (h : Rep w' (Fresh w w') p v) : Rep w' (In w') p v := Rep.to (fun _ hb => ⟨hb.2, rfl⟩) p v h

theorem rowC {w : World} {g : Nat} {cs : Array Value} {t : TypeId} (h : w.heap[g]? = some (.cells cs t (0, 0))) (i : Nat) {v : Value} (hi : cs[i]? = some v) : w.cell? ⟨g, i, none⟩ = some v := by
  rw [cell_of_row w g i cs t (0, 0) h]; exact hi
theorem rowF {w : World} {g : Nat} {cs : Array Value} {t : TypeId} (h : w.heap[g]? = some (.cells cs t (0, 0))) (i : Nat) : w.frozen? ⟨g, i, none⟩ = false := by
  simp [World.frozen?, h]
theorem Ext.row {w w' : World} (h : Ext w w') {g : Nat} {o : Obj} (hg : w.heap[g]? = some o) : w'.heap[g]? = some o := by
  rw [h.block g (Array.getElem?_eq_some_iff.1 hg).1]; exact hg
theorem row_set {w : World} {g : Nat} {cs : Array Value} {t : TypeId} (h : w.heap[g]? = some (.cells cs t (0, 0))) (i : Nat) (v : Value) : (w.setCell ⟨g, i, none⟩ v).heap[g]? = some (.cells (cs.setIfInBounds i v) t (0, 0)) := by
  simp [World.setCell, Array.getElem?_modify, h]

theorem grown_row {w w' : World} {r : Option Nat} (h : w.grownBy w' r) {g : Nat} {o : Obj} (hg : w.heap[g]? = some o) (hne : some g ≠ r) : w'.heap[g]? = some o := by
  rw [h.block g (Array.getElem?_eq_some_iff.1 hg).1 hne]; exact hg

/-- What is known of the copy under way: the blocks of the box, the answer and the copy; the copy's row; what stands in it. -/
structure Mid (w wr : World) (ps : List PV) (ao : Option Addr) (cap : Nat) : Prop where
  ext : Ext w wr
  r1 : wr.heap[w.heap.size + 1]? = some (.cells #[.int .i64 0, .int .i64 0, .complex .f64 0 0, .string ⟨#[]⟩, .slice none 0 0] 25 (0, 0))
  r2 : wr.heap[w.heap.size + 2]? = some (.cells #[.int .i64 4, .int .i64 0, .complex .f64 0 0, .string ⟨#[]⟩, .slice ao ps.length cap] 25 (0, 0))
  own : ∃ xs, wr.ownsRow (w.heap.size + 3) 25 5 (.slice ao ps.length cap) ps.length xs ∧ Row5 wr (fun b => w.heap.size + 3 ≤ b ∧ b < wr.heap.size ∧ some b ≠ (Value.slice ao ps.length cap).ownBlock) ps xs

theorem Mid.start (w : World) (cs : Array Value) : Mid w (((w.alloc (.cells cs 25)).alloc (.cells #[.int .i64 0, .int .i64 0, .complex .f64 0 0, .string ⟨#[]⟩, .slice none 0 0] 25)).alloc (.cells #[.int .i64 4, .int .i64 0, .complex .f64 0 0, .string ⟨#[]⟩, .slice none 0 0] 25)) [] none 0 := by
  refine ⟨((Ext.alloc _ _).trans (Ext.alloc _ _)).trans (Ext.alloc _ _), ?_, ?_, [], World.ownsRow_nil _ _ _ _, rfl⟩
  · have := (Ext.alloc ((w.alloc (.cells cs 25)).alloc (.cells #[.int .i64 0, .int .i64 0, .complex .f64 0 0, .string ⟨#[]⟩, .slice none 0 0] 25)) (.cells #[.int .i64 4, .int .i64 0, .complex .f64 0 0, .string ⟨#[]⟩, .slice none 0 0] 25)).row (Go.heap_alloc_new (w.alloc (.cells cs 25)) (.cells #[.int .i64 0, .int .i64 0, .complex .f64 0 0, .string ⟨#[]⟩, .slice none 0 0] 25))
    simpa only [heap_alloc_size] using this
  · have := Go.heap_alloc_new ((w.alloc (.cells cs 25)).alloc (.cells #[.int .i64 0, .int .i64 0, .complex .f64 0 0, .string ⟨#[]⟩, .slice none 0 0] 25)) (.cells #[.int .i64 4, .int .i64 0, .complex .f64 0 0, .string ⟨#[]⟩, .slice none 0 0] 25)
    rw [heap_alloc_size, heap_alloc_size] at this
    exact this

/-- Memory made since leaves it as it was. -/
theorem Mid.on {w wr w2 : World} {ps : List PV} {ao : Option Addr} {cap : Nat} (h : Mid w wr ps ao cap) (he : Ext wr w2) : Mid w w2 ps ao cap := by
  obtain ⟨xs, ho, hr⟩ := h.own
  have hb : ∀ b, b < wr.heap.size → w2.heap[b]? = wr.heap[b]? := he.block
  refine ⟨h.ext.trans he, he.row h.r1, he.row h.r2, xs, ⟨ho.1, ?_⟩, Row5.to (fun b hb => ⟨⟨hb.1, Nat.lt_of_lt_of_le hb.2.1 he.le, hb.2.2⟩, he.block b hb.2.1⟩) hr⟩
  rcases ho.2 with h0 | ⟨g, c2, cur, e, hbase, hg, rest⟩
  · exact Or.inl h0
  · exact Or.inr ⟨g, c2, cur, e, hbase, he.row hg, rest⟩

/-- One value more: behind the append and the store of the row into the copy. -/
theorem Mid.snoc {w w2 w3 : World} {ps : List PV} {ao : Option Addr} {cap g' cap' : Nat} {p : PV} {a : Option Addr} {c : Nat} {xs : List Value}
    (h : Mid w w2 ps ao cap) (ho : w3.ownsRow (w.heap.size + 3) 25 5 (.slice (some ⟨g', 0, none⟩) (ps.length + 1) cap') (ps.length + 1) (xs ++ [.int .i64 p.k, .int .i64 p.n, .complex .f64 p.re p.im, .string p.s, .slice a p.l.length c]))
    (hx : Row5 w2 (fun b => w.heap.size + 3 ≤ b ∧ b < w2.heap.size ∧ some b ≠ (Value.slice ao ps.length cap).ownBlock) ps xs)
    (hb : Bd p.k p.n p.re p.im p.s p.l.length c) (hp : RepL w2 (fun b => w.heap.size + 3 ≤ b ∧ b < w2.heap.size ∧ some b ≠ (Value.slice ao ps.length cap).ownBlock) p.l a)
    (hg : w2.grownBy w3 (Value.slice ao ps.length cap).ownBlock) (hw : (Value.slice ao ps.length cap).ownBlock = some g' ∨ w2.heap.size ≤ g') :
    Mid w (w3.setCell ⟨w.heap.size + 2, 4, none⟩ (.slice (some ⟨g', 0, none⟩) (ps.length + 1) cap')) (ps ++ [p]) (some ⟨g', 0, none⟩) cap' := by
  have hlt := h.ext.le
  have h2 : w.heap.size + 2 < w2.heap.size := (Array.getElem?_eq_some_iff.1 h.r2).1
  have hob : ∀ g, (Value.slice ao ps.length cap).ownBlock = some g → w.heap.size + 3 ≤ g := by
    obtain ⟨ys, hy, _⟩ := h.own
    intro g e
    exact (hy.lt g e).1
  have hg3 : w.heap.size + 3 ≤ g' := by
    rcases hw with e | e
    · exact hob _ e
    · omega
  have hne : ∀ g, g < w.heap.size + 3 → some g ≠ (Value.slice ao ps.length cap).ownBlock := by
    intro g hl e
    have := hob g e.symm
    omega
  have hset : ∀ b, b ≠ w.heap.size + 2 → (w3.setCell ⟨w.heap.size + 2, 4, none⟩ (.slice (some ⟨g', 0, none⟩) (ps.length + 1) cap')).heap[b]? = w3.heap[b]? := fun b hb => Below.heap_setCell _ _ _ _ hb
  have hsize : (w3.setCell ⟨w.heap.size + 2, 4, none⟩ (.slice (some ⟨g', 0, none⟩) (ps.length + 1) cap')).heap.size = w3.heap.size := by simp [World.setCell]
  have hF : ∀ b, (w.heap.size + 3 ≤ b ∧ b < w2.heap.size ∧ some b ≠ (Value.slice ao ps.length cap).ownBlock) →
      (w.heap.size + 3 ≤ b ∧ b < (w3.setCell ⟨w.heap.size + 2, 4, none⟩ (.slice (some ⟨g', 0, none⟩) (ps.length + 1) cap')).heap.size ∧ some b ≠ (Value.slice (some ⟨g', 0, none⟩) (ps ++ [p]).length cap').ownBlock) ∧
      (w3.setCell ⟨w.heap.size + 2, 4, none⟩ (.slice (some ⟨g', 0, none⟩) (ps.length + 1) cap')).heap[b]? = w2.heap[b]? := by
    intro b hb
    refine ⟨⟨hb.1, by rw [hsize]; exact Nat.lt_of_lt_of_le hb.2.1 hg.size, ?_⟩, ?_⟩
    · intro e
      simp only [Value.ownBlock, Option.some.injEq] at e
      rcases hw with e2 | e2
      · exact hb.2.2 (by rw [e2, e])
      · omega
    · rw [hset b (by omega)]
      exact hg.block b hb.2.1 hb.2.2
  have hlen : (ps ++ [p]).length = ps.length + 1 := by simp
  refine ⟨?_, ?_, ?_, _, ?_, Row5.snoc hb (RepL.to hF _ _ hp) (Row5.to hF hx)⟩
  · have hE : Ext w w3 := Below.grown h.ext hg hlt (fun k e => by have := hob k e; omega)
    exact hE.set (by simp) _
  · rw [hset _ (by omega)]
    exact grown_row hg h.r1 (hne _ (by omega))
  · rw [row_set (grown_row hg h.r2 (hne _ (by omega))), hlen]
    rfl
  · rw [hlen]
    refine ⟨ho.1, ?_⟩
    rcases ho.2 with ⟨e, _⟩ | ⟨g, c2, cur, e, hbase, hgg, rest⟩
    · cases e
    · refine Or.inr ⟨g, c2, cur, e, hbase, ?_, rest⟩
      injection e with e1 _ _
      injection e1 with e1
      injection e1 with e1
      subst e1
      rw [hset _ (by omega)]
      exact hgg

theorem own_ext {w w' : World} {base : Nat} {e : TypeId} {size : Nat} {v : Value} {n : Nat} {xs : List Value} (h : w.ownsRow base e size v n xs) (he : Ext w w') : w'.ownsRow base e size v n xs := by
  refine ⟨h.1, ?_⟩
  rcases h.2 with h0 | ⟨g, c2, cur, e1, hbase, hg, rest⟩
  · exact Or.inl h0
  · exact Or.inr ⟨g, c2, cur, e1, hbase, he.row hg, rest⟩

theorem add0 (g j : Nat) : (⟨g, 0, none⟩ : Addr).add j = ⟨g, j, none⟩ := by unfold Addr.add; split <;> simp_all

theorem cells_new (w : World) (cs : Array Value) (t : TypeId) : ∀ j u, cs.toList[j]? = some u → (w.alloc (.cells cs t)).cell? ((⟨w.heap.size, 0, none⟩ : Addr).add j) = some u := by
  intro j u hu
  rw [add0]
  exact cell_box w cs t j (by simpa using hu)

theorem enterCopied (v : Value) (w : World) : (callFunc 76 #[v]).run Try.prog w = .ok (.enter 76 #[v]) w := by kernel_rfl

/-- What the copy has when all is copied. -/
theorem Mid.done {w wr : World} {ps : List PV} {ao : Option Addr} {c : Nat} (h : Mid w wr ps ao c) : RepL wr (fun b => w.heap.size + 3 ≤ b ∧ b < wr.heap.size) ps ao ∧ ps.length ≤ c := by
  obtain ⟨xs, ho, hr⟩ := h.own
  rcases ho.2 with ⟨e, h0⟩ | ⟨g, c2, cur, e, hbase, hg, hle, _⟩
  · have : ps = [] := List.eq_nil_of_length_eq_zero h0
    subst this
    exact ⟨by simp [RepL], by simp⟩
  · injection e with e1 e2 e3
    subst e1 e3
    refine ⟨Row5.repL (g := g) ⟨hbase, (Array.getElem?_eq_some_iff.1 hg).1⟩ (Row5.to (fun b hb => ⟨⟨hb.1, hb.2.1⟩, rfl⟩) hr) (cells_own ho), hle⟩

theorem copied_four (n : Int) (re im : Nat) (s : ByteArray) (l : List PV)
    (ih : ∀ x ∈ l, ∀ (v : Value) (w : World), Rep w (In w) x v → Calls Try.prog 76 #[v] w fun e w' => ∃ v', e = .returned v' ∧ Rep w' (Fresh w w') (norm x) v' ∧ Ext w w')
    (v : Value) (w : World) (hr : Rep w (In w) (.mk 4 n re im s l) v) :
    Calls Try.prog 76 #[v] w fun e w' => ∃ v', e = .returned v' ∧ Rep w' (Fresh w w') (norm (.mk 4 n re im s l)) v' ∧ Ext w w' := by
  rw [Rep] at hr
  obtain ⟨a, cap, rfl, hb, hl⟩ := hr
  have h72 := hb.b72
  have h1 := hb.bl
  have h2 := hb.bc
  have H := hide hl
  have I := hide ih
  clear hl ih hb
  go_enter Try.func76, Try.ntmps76
  go_wp2_with fail
  go_loopw [30] (fun i wr => ∃ (j : Nat) (ao : Option Addr) (c : Nat), i = .int .i64 j ∧ j ≤ l.length ∧ Hd (Mid w wr ((l.take j).map norm) ao c)) (fun i _ => l.length - (intOf i).toNat)
  case atStart => exact ⟨0, none, 0, rfl, by omega, Mid.start w _⟩
  case round =>
    obtain ⟨j, ao, c, rfl, hj, hM⟩ := hrel
    by_cases hlt : j < l.length
    · obtain ⟨x, hx⟩ : ∃ x, l[j]? = some x := ⟨l[j], List.getElem?_eq_getElem hlt⟩
      have hM' := unhide hM
      obtain ⟨b, off, a', cap', rfl, hEl⟩ := RepL.get (RepL.ext (unhide H) hM'.ext) j x hx
      have h0 := hEl.c0
      have h1 := hEl.c1
      have h2 := hEl.c2
      have h3 := hEl.c3
      have h4 := hEl.c4
      have hpl : ((l.take j).map norm).length = j := by simp; omega
      obtain ⟨xs, ho, hrow⟩ := hM'.own
      rw [hpl] at ho
      have O := hide ho
      have ROW := hide hrow
      have NE : Hd (some (w.heap.size + 2) ≠ (Value.slice ao j c).ownBlock) := fun e => by have := ho.lt _ e.symm; omega
      obtain ⟨q, hq⟩ : ∃ q, q = norm x := ⟨_, rfl⟩
      have hc := unhide I x (List.mem_of_getElem? hx) _ (wr.alloc (.cells #[.int .i64 x.k, .int .i64 x.n, .complex .f64 x.re x.im, .string x.s, .slice a' x.l.length cap'] 25)).drew (hEl.rep.ext (Ext.drew (Ext.alloc _ _)))
      rw [← hq] at hc
      have C := hide hc
      have hr2 := hM'.r2
      rw [hpl] at hr2
      have hy4 := rowC hr2 4 rfl
      have hlt2 : w.heap.size + 2 < wr.heap.size := (Array.getElem?_eq_some_iff.1 hr2).1
      have hE1 : Ext wr (wr.alloc (.cells #[.int .i64 x.k, .int .i64 x.n, .complex .f64 x.re x.im, .string x.s, .slice a' x.l.length cap'] 25)).drew := Ext.drew (Ext.alloc _ _)
      have HE := hide hE1
      have R2 := hide hr2
      have Q := hide hq
      have X := hide hx
      obtain ⟨i0, hi, hz0, hz1, hz2⟩ := info_parts infoV
      have HI := hide hi
      have Z0 := hide hz0
      have Z1 := hide hz1
      have Z2 := hide hz2
      clear hEl hc ho hrow hM' hr2 hE1 hq hx hpl hi hz0 hz1 hz2
      cases q with
      | mk k' n' re' im' s' l' =>
      go_wp2_with fail
      go_region_law (first
        | (refine step_call_one rfl 76 (.tmp 36) 25 rfl _ (by simp [Act.eval, Act.put]) (enterCopied _ _) (Calls.mono (unhide C) ?_); rintro e w2 ⟨v2, rfl, hr2, hw2⟩; rw [Rep] at hr2; obtain ⟨a2, c2, rfl, hb2, hl2⟩ := hr2; have hE2 := hide ((unhide HE).trans hw2); have hrow2 := (unhide hE2).row (unhide R2); have hy5 := rowC hrow2 4 rfl; have hlt3 : w.heap.size + 2 < w2.heap.size := (Array.getElem?_eq_some_iff.1 hrow2).1; have B2 := hide hb2; have L2 := hide hl2; have RW2 := hide hrow2; have W2 := hide hw2; clear hb2 hl2 hrow2 hw2; refine ⟨_, rfl, ?_⟩)
        | (refine step_append_where rfl (.tmp 35) (.tmp 38) 23 rfl (w.heap.size + 3) 25 i0 nilV 5 72 Try.underlying23 (unhide HI) (unhide Z0) (unhide Z1) (unhide Z2) rfl (by decide) ao j c xs (by simp [Act.eval, Act.put]) ((own_ext (unhide O) (unhide hE2)).alloc _) ⟨w2.heap.size, 0, none⟩ 1 1 [.int .i64 k', .int .i64 n', .complex .f64 re' im', .string s', .slice a2 l'.length c2] (by simp [Act.eval, Act.put]) (by decide) rfl (cells_new w2 #[.int .i64 k', .int .i64 n', .complex .f64 re' im', .string s', .slice a2 l'.length c2] 25) (by simp [Value.oneCell']) (by simp only [maxLen]; omega) (by omega) (by simp; omega) ?_; intro g' cap2 w3 ho3 hg3 hw3; have hz := grown_row hg3 ((Ext.alloc w2 _).row (unhide RW2)) (unhide NE); have hz4 := rowC hz 4 rfl; have hzf := rowF hz 4; clear hz; have G := hide (⟨ho3, hg3, hw3⟩ : _ ∧ _ ∧ _); clear ho3 hg3 hw3))
      all_goals
        go_wp2_with fail
        go_roundw
        case rel =>
          refine ⟨j + 1, some ⟨g', 0, none⟩, cap2, by go_num, by omega, ?_⟩
          obtain ⟨ho3, hg3, hw3⟩ := unhide G
          have hE3 := (unhide hE2).trans (Ext.alloc w2 (.cells #[.int .i64 k', .int .i64 n', .complex .f64 re' im', .string s', .slice a2 l'.length c2] 25))
          have hM3 := (unhide hM).on hE3
          have htk : (l.take (j + 1)).map norm = (l.take j).map norm ++ [PV.mk k' n' re' im' s' l'] := by
            obtain ⟨hj2, hx2⟩ := List.getElem?_eq_some_iff.1 (unhide X)
            rw [List.take_succ_eq_append_getElem hj2, List.map_append, hx2]
            simp [unhide Q]
          have hpl : ((l.take j).map norm).length = j := by simp; omega
          have hrow := unhide ROW
          have hO := unhide O
          have hw2 := unhide W2
          have hL2 := unhide L2
          show Mid _ _ _ _ _
          rw [htk]
          obtain ⟨ps, hps⟩ : ∃ ps, ps = (l.take j).map norm := ⟨_, rfl⟩
          rw [← hps] at hpl hM3 hrow ⊢
          clear hps htk
          subst hpl
          refine Mid.snoc (p := PV.mk k' n' re' im' s' l') hM3 ho3 (Row5.to (fun b hb => ⟨⟨hb.1, Nat.lt_of_lt_of_le hb.2.1 hE3.le, hb.2.2⟩, hE3.block b hb.2.1⟩) hrow) (unhide B2) (RepL.to (fun b hb => ⟨⟨?fa, ?fb, ?fc⟩, ?fd⟩) _ _ hL2) hg3 hw3
          case fa =>
            have h1 := hb.1
            have h2 : wr.heap.size + 1 ≤ b := by simpa [World.drew] using h1
            omega
          case fb =>
            have h2 := hb.2
            simp
            omega
          case fc =>
            intro e
            have h1 : wr.heap.size + 1 ≤ b := by simpa [World.drew] using hb.1
            have := hO.lt b e.symm
            omega
          case fd => exact (Ext.alloc w2 _).block b hb.2
        case measure => simp [intOf]; omega
    · have : j = l.length := by omega
      subst this
      have hr1 := (unhide hM).r1
      have hr2 := (unhide hM).r2
      have hx0 := rowC hr1 0 rfl
      have hx1 := rowC hr1 1 rfl
      have hx2 := rowC hr1 2 rfl
      have hx3 := rowC hr1 3 rfl
      have hx4 := rowC hr1 4 rfl
      have hf := rowF hr1
      have hy0 := rowC hr2 0 rfl
      have hy1 := rowC hr2 1 rfl
      have hy2 := rowC hr2 2 rfl
      have hy3 := rowC hr2 3 rfl
      have hy4 := rowC hr2 4 rfl
      clear hr1 hr2
      go_wp2_with fail
      have hM' := unhide hM
      rw [List.take_of_length_le (Nat.le_refl _)] at hM'
      obtain ⟨hL, hcap⟩ := hM'.done
      have hE := (((((hM'.ext.set (a := ⟨w.heap.size + 1, 0, none⟩) (by simp) (.int .i64 4)).set (a := ⟨w.heap.size + 1, 1, none⟩) (by simp) (.int .i64 0)).set (a := ⟨w.heap.size + 1, 2, none⟩) (by simp) (.complex .f64 0 0)).set (a := ⟨w.heap.size + 1, 3, none⟩) (by simp) (.string ⟨#[]⟩)).set (a := ⟨w.heap.size + 1, 4, none⟩) (by simp) (.slice ao l.length c))
      refine bodyPost_ret (v := .agg #[.int .i64 4, .int .i64 0, .complex .f64 0 0, .string ⟨#[]⟩, .slice ao l.length c]) (by simp [results, Try.results76, go_sem, hx0, hx1, hx2, hx3, hx4]) rfl ⟨_, rfl, ?_, hE⟩
      rw [norm, if_neg (by decide), if_neg (by decide), if_neg (by decide), if_pos rfl, normL_map, Rep]
      refine ⟨ao, c, by simp, ⟨by decide, by decide, by decide, by decide, by decide, by decide, by decide, by simpa using h72, hcap⟩, RepL.to (fun b hb => ⟨⟨by omega, ?_⟩, ?_⟩) _ _ hL⟩
      · have hne : b ≠ w.heap.size + 1 := by omega
        rw [Below.heap_setCell _ _ _ _ hne, Below.heap_setCell _ _ _ _ hne, Below.heap_setCell _ _ _ _ hne, Below.heap_setCell _ _ _ _ hne, Below.heap_setCell _ _ _ _ hne]
      · simp only [World.setCell, Array.size_modify]
        exact hb.2

end Go.Proofs.Ytbkncdjmodeabaa
