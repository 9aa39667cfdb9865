/- The law ThreadChains: its function under way; the region that draws its order, by what holds behind each set of operations that have come up. -/
import Derived.Test.YtdnhekgbfhlhoaaThK
import Derived.Test.YtdnhekgbfhlhoaaGrAx
set_option linter.unusedSimpArgs false
set_option linter.unusedVariables false
set_option maxRecDepth 10000
namespace Go.Proofs.Ytdnhekgbfhlhoaa
open Go.RowKit

theorem first_w (k f E : Int) (X : Nat) (w : World) (hX : w.cell? ⟨X, 0, none⟩ = some (.int .i64 E)) :
    Calls Try.prog 4 #[.int .i64 k, .int .i64 f, .pointer (some ⟨X, 0, none⟩)] w fun e w' => e = .returned (.int .i64 (if k = 0 then E else f)) ∧ w' = w := by
  by_cases hk : k = 0
  · subst hk
    rw [if_pos rfl]
    go_enter Try.func4, Try.ntmps4
    go_wp2_with fail
    go_ret
    exact ⟨rfl, rfl⟩
  · rw [if_neg hk]
    have e0 : (k == 0) = false := by simp [hk]
    go_enter Try.func4, Try.ntmps4
    go_wp2_with fail
    go_ret
    exact ⟨rfl, rfl⟩
/-- What is wanted: a function of one block of two outputs. -/
theorem want_rep (w : World) (o1 o4 : Obj) : RepB ((((w.alloc o1).alloc (.cells #[.int .i64 6, .int .i64 0, .int .i64 0, .int .i64 0, .int .i64 0, .int .i64 0, .int .i64 0, .int .i64 0, .complex .f64 0 0, .string ⟨#[]⟩, .slice none 0 0, .slice none 0 0, .int .i64 6, .int .i64 0, .int .i64 0, .int .i64 0, .int .i64 0, .int .i64 0, .int .i64 0, .int .i64 0, .complex .f64 0 0, .string ⟨#[]⟩, .slice none 0 0, .slice none 0 0] 32)).alloc (.cells #[.slice (some ⟨w.heap.size + 1, 0, none⟩) 2 2, .int .i64 3, .int .i64 0, .int .i64 0, .int .i64 0] 37)).alloc o4) (In ((((w.alloc o1).alloc (.cells #[.int .i64 6, .int .i64 0, .int .i64 0, .int .i64 0, .int .i64 0, .int .i64 0, .int .i64 0, .int .i64 0, .complex .f64 0 0, .string ⟨#[]⟩, .slice none 0 0, .slice none 0 0, .int .i64 6, .int .i64 0, .int .i64 0, .int .i64 0, .int .i64 0, .int .i64 0, .int .i64 0, .int .i64 0, .complex .f64 0 0, .string ⟨#[]⟩, .slice none 0 0, .slice none 0 0] 32)).alloc (.cells #[.slice (some ⟨w.heap.size + 1, 0, none⟩) 2 2, .int .i64 3, .int .i64 0, .int .i64 0, .int .i64 0] 37)).alloc o4)) (some ⟨w.heap.size + 1 + 1, 0, none⟩) [⟨2, ⟨3, 0, 0, 0⟩⟩] [(some ⟨w.heap.size + 1, 0, none⟩, 2)] := by
  have r1 := ((Row.new (w.alloc o1) (outs 2) 32).on (Ext.alloc _ (.cells #[.slice (some ⟨w.heap.size + 1, 0, none⟩) 2 2, .int .i64 3, .int .i64 0, .int .i64 0, .int .i64 0] 37))).on (Ext.alloc _ o4)
  have r2 := (Row.new ((w.alloc o1).alloc (.cells (outs 2).toArray 32)) [.slice (some ⟨w.heap.size + 1, 0, none⟩) 2 2, .int .i64 3, .int .i64 0, .int .i64 0, .int .i64 0] 37).on (Ext.alloc _ o4)
  rw [sz1] at r1
  rw [sz1, sz1] at r2
  refine ⟨rfl, Or.inr ⟨w.heap.size + 1 + 1, 0, rfl, k_lt r2, fun j v hj => ?_⟩, fun i b d h1 h2 => ?_⟩
  · rw [Nat.zero_add]
    exact r2.cell j hj
  · have hi := (List.getElem?_eq_some_iff.1 h1).1
    simp at hi
    subst hi
    simp at h1 h2
    subst h1 h2
    exact Or.inr ⟨by decide, w.heap.size + 1, 0, rfl, k_lt r1, fun j v hj => by rw [Nat.zero_add]; exact r1.cell j hj⟩
theorem enterFirst (v u p : Value) (w : World) : (callFunc 4 #[v, u, p]).run Try.prog w = .ok (.enter 4 #[v, u, p]) w := by kernel_rfl

/-- The function under way. -/
structure LwI (w wr : World) (E : Int) (l : List RB) (va : Option Addr) (vc : Nat) (ads : List (Option Addr × Nat)) : Prop where
  ext : Ext w wr
  fb : Row wr w.heap.size 24 [.string ⟨#[]⟩, .int .i64 1, .int .i64 1, .slice va l.length vc]
  eb : Row wr (w.heap.size + 1) 3 [.int .i64 E]
  bl : BlA wr w.heap.size va vc l ads
theorem LwI.on {w wr wz : World} {E : Int} {l : List RB} {va : Option Addr} {vc : Nat} {ads : List (Option Addr × Nat)} (h : LwI w wr E l va vc ads) (x : Ext wr wz) : LwI w wz E l va vc ads := ⟨h.ext.trans x, h.fb.on x, h.eb.on x, h.bl.on x⟩
theorem LwI.push {w wr w3 : World} {E : Int} {l : List RB} {va : Option Addr} {vc g' cap' : Nat} {ads : List (Option Addr × Nat)} {ob : Obj} (h : LwI w wr E l va vc ads) (b : RB) (d : Option Addr × Nat) (hz : b.c = 0 → d = (none, 0)) (hb : wr.ownsRow w.heap.size 32 12 (.slice d.1 b.c d.2) b.c (outs b.c))
    (g1 : (wr.alloc ob).grownBy w3 (Value.slice va l.length vc).ownBlock) (ho : w3.ownsRow w.heap.size 37 5 (.slice (some ⟨g', 0, none⟩) (l.length + 1) cap') (l.length + 1) (bC l ads ++ rbC b d)) :
    LwI w (w3.setCell ⟨w.heap.size, 3, none⟩ (.slice (some ⟨g', 0, none⟩) (l.length + 1) cap')) E (l ++ [b]) (some ⟨g', 0, none⟩) cap' (ads ++ [d]) := by
  have x1 := h.on (Ext.alloc wr ob)
  have f3 : Row w3 w.heap.size 24 [.string ⟨#[]⟩, .int .i64 1, .int .i64 1, .slice va l.length vc] := row_own x1.fb x1.bl.own g1 (by decide)
  have e3 : Row w3 (w.heap.size + 1) 3 [.int .i64 E] := row_own x1.eb x1.bl.own g1 (by decide)
  have xe : Ext w w3 := by
    refine ⟨g1.os.trans x1.ext.os, g1.tape.trans x1.ext.tape, g1.output.trans x1.ext.output, Nat.le_trans x1.ext.size g1.size, fun q hq => (g1.block q (Nat.lt_of_lt_of_le hq x1.ext.size) (fun e => ?_)).trans (x1.ext.block q hq)⟩
    have := (h.bl.own.lt q e.symm).1
    omega
  refine ⟨xe.set (Nat.le_refl _) _, ?_, e3.other (by omega) _ _, (h.bl.push b d hz hb g1 ho).set f3 (by decide) (by decide) _⟩
  have := f3.set 3 (.slice (some ⟨g', 0, none⟩) (l.length + 1) cap')
  rw [List.length_append]
  exact this
theorem BlA.rep {w : World} {base vc : Nat} {va : Option Addr} {l : List RB} {ads : List (Option Addr × Nat)} (h : BlA w base va vc l ads) (hl : 0 < l.length) : RepB w (In w) va l ads := by
  obtain ⟨g, rfl, hb⟩ := h.full hl
  exact hb.rep.to fun q hq => ⟨hq.2, rfl⟩
theorem own_out (W : World) (base n : Nat) (b : Nat) (hb : b = W.heap.size) (h : base ≤ W.heap.size) (hn : n ≤ 1000) : (W.alloc (.cells (outs n).toArray 32)).ownsRow base 32 12 (.slice (some ⟨b, 0, none⟩) n n) n (outs n) := by
  subst hb
  refine ⟨outs_len n, Or.inr ⟨W.heap.size, n, (outs n).toArray, rfl, h, Go.heap_alloc_new W _, Nat.le_refl _, by unfold maxLen; omega, by simp [outs_len], ?_⟩⟩
  rw [← outs_len n]
  simp


theorem wp_clo {P : Program} {w : World} {o : Oper} {a : Act} {K : Act → World → Prop} {Q : Exit → Act → World → Prop}
    (z x y : Operand) (t u : TypeId) (hop : o.op = Op.call { callee := Callee.value z, args := #[x, y], argTypes := #[t, u] })
    (f : FuncId) (v v' p : Value) (hz : a.eval z = .func (.func f) #[] #[p]) (hx : a.eval x = v) (hy : a.eval y = v') (hf : (callFunc f #[v, v', p]).run P w = .ok (.enter f #[v, v', p]) w) (hK : Calls P f #[v, v', p] w fun e w' => ∃ r, e = .returned r ∧ K (a.put o.dst r) w') : o.wp P a w K Q := by
  unfold Oper.wp
  have hrun : (execOp a.eval o).run P w = .ok (.enter f #[v, v', p]) w := by
    simp [execOp, hop, resolve, invoke, hx, hy, hz, Result.andThen, Deferred.ofValue, hf]
  rw [hrun, Oper.upon_enter]
  refine hK.mono ?_
  rintro e w' ⟨r, rfl, h⟩
  exact h
theorem wp_kapp {P : Program} {w : World} {o : Oper} {a : Act} {K : Act → World → Prop} {Q : Exit → Act → World → Prop} (s x : Operand) (t : TypeId)
    (hop : o.op = .call { callee := .builtin .append, args := #[s, x], argTypes := #[t, t] })
    (base : Nat) (e : TypeId) (i : TypeInfo) (z : Value) (size bytes : Nat) (ht : P.underlying t = some (.slice e)) (hi : P.info? e = some i) (hz : i.zero = some z)
    (hsize : i.size = size) (hby : i.bytes = bytes) (hzs : z.cells.size = size) (hsz : 0 < size)
    (ao : Option Addr) (n cap : Nat) (xs : List Value) (hs : a.eval s = .slice ao n cap) (hown : w.ownsRow base e size (.slice ao n cap) n xs)
    (ad : Addr) (m c : Nat) (news : List Value) (hx : a.eval x = .slice (some ad) m c) (hm : 0 < m) (hl : news.length = m * size) (hnews : ∀ j u, news[j]? = some u → w.cell? (ad.add j) = some u) (h1 : ∀ u ∈ news, u.oneCell' = true)
    (h63 : n + m ≤ maxLen) (hbytes : (n + m) * bytes ≤ 140737488355328) (hbase : base ≤ w.heap.size)
    (hK : ∀ g' cap' w', w'.ownsRow base e size (.slice (some ⟨g', 0, none⟩) (n + m) cap') (n + m) (xs ++ news) → w.grownBy w' (Value.slice ao n cap).ownBlock → K (a.put o.dst (.slice (some ⟨g', 0, none⟩) (n + m) cap')) w') : o.wp P a w K Q := by
  obtain ⟨g', cap', w', hrun, r1, r2, r3⟩ := kapp_run (P := P) (w := w) base t o.type e i z size bytes ht hi hz hsize hby hzs hsz ao n cap xs hown ad m c news hm hl hnews h1 h63 hbytes hbase
  unfold Oper.wp
  simp [execOp, hop, resolve, invoke, builtin, hs, hx, hrun, Result.andThen]
  exact hK g' cap' w' r1 r2

def vM (F X : Nat) (n m n1 x0 y0 : Int) (W0 : World) : Nat → Value
  | 0 => .pointer (some ⟨F, 3, none⟩)
  | 1 => .slice none 0 0
  | 2 => outV
  | 3 => .slice (some ⟨W0.heap.size, 0, none⟩) 1 1
  | 4 => .func (.func 4) #[] #[.pointer (some ⟨X, 0, none⟩)]
  | 5 => .int .i64 n
  | 6 => .int .i64 x0
  | 7 => .func (.func 4) #[] #[.pointer (some ⟨X, 0, none⟩)]
  | 8 => .int .i64 m
  | 9 => .int .i64 n
  | 10 => .int .i64 n1
  | 11 => .int .i64 y0
  | 12 => .agg #[.int .i64 2, .int .i64 0, .int .i64 x0, .int .i64 y0]
  | 13 => .agg #[.slice (some ⟨W0.heap.size, 0, none⟩) 1 1, .int .i64 2, .int .i64 0, .int .i64 x0, .int .i64 y0]
  | 14 => .slice (some ⟨W0.heap.size + 1, 0, none⟩) 1 1
  | _ => undef
def dpM : Nat → List Nat
  | 1 => [0]
  | 3 => [2]
  | 6 => [4, 5]
  | 10 => [9]
  | 11 => [7, 8, 10, 6]
  | 12 => [6, 11]
  | 13 => [3, 12]
  | 14 => [13]
  | 15 => [1, 14, 11]
  | 16 => [15]
  | 17 => [16]
  | _ => []
def wM (x0 y0 : Int) (W0 : World) : Bool → Bool → World
  | false, _ => W0.drew
  | true, false => (W0.alloc (.cells #[.int .i64 6, .int .i64 0, .int .i64 0, .int .i64 0, .int .i64 0, .int .i64 0, .int .i64 0, .int .i64 0, .complex .f64 0 0, .string ⟨#[]⟩, .slice none 0 0, .slice none 0 0] 32)).drew
  | true, true => ((W0.alloc (.cells #[.int .i64 6, .int .i64 0, .int .i64 0, .int .i64 0, .int .i64 0, .int .i64 0, .int .i64 0, .int .i64 0, .complex .f64 0 0, .string ⟨#[]⟩, .slice none 0 0, .slice none 0 0] 32)).alloc (.cells #[.slice (some ⟨W0.heap.size, 0, none⟩) 1 1, .int .i64 2, .int .i64 0, .int .i64 x0, .int .i64 y0] 37)).drew
/-- Ahead of the append. -/
structure JM1 (A : Array Value) (val : Nat → Value) (wf : Bool → Bool → World) (l : Array Bool) (T : Array Value) (w : World) : Prop where
  sz : l.size = 18
  len : T.size = 102
  keep : ∀ j, j < 25 ∨ 40 ≤ j → T[j]? = A[j]?
  dn : ∀ i, ltA l i → ∀ j ∈ dpM i, ltA l j
  n15 : ¬ ltA l 15
  ph : ∀ i, i < 15 → ltA l i → T[25 + i]? = some (val i)
  wo : w = wf (decide (ltA l 3)) (decide (ltA l 14))
theorem JM1.step {A : Array Value} {val : Nat → Value} {wf : Bool → Bool → World} {l : Array Bool} {T : Array Value} {w w' : World} (h : JM1 A val wf l T w) (i : Nat) (hi : i < 15) (hdep : ∀ j ∈ dpM i, ltA l j) (hw : w' = wf (decide (i = 3 ∨ ltA l 3)) (decide (i = 14 ∨ ltA l 14))) : JM1 A val wf (l.setIfInBounds i true) (T.setIfInBounds (25 + i) (val i)) w' := by
  have hiz : i < l.size := by rw [h.sz]; omega
  have up : ∀ j, ltA (l.setIfInBounds i true) j ↔ j = i ∨ ltA l j := fun j => ltA_set hiz
  refine ⟨by rw [Array.size_setIfInBounds]; exact h.sz, by rw [Array.size_setIfInBounds]; exact h.len, fun j hj => by rw [T_other (by omega)]; exact h.keep j hj, fun k hk j hj => ?_, fun c => ?_, fun k hk hl => ?_, ?_⟩
  · rcases (up k).1 hk with e | e
    · subst e; exact (up j).2 (Or.inr (hdep j hj))
    · exact (up j).2 (Or.inr (h.dn k e j hj))
  · rcases (up 15).1 c with e | e
    · omega
    · exact h.n15 e
  · by_cases e : k = i
    · subst e
      rw [T_self (by rw [h.len]; omega)]
    · rw [T_other (by omega)]
      exact h.ph k hk (((up k).1 hl).resolve_left e)
  · rw [hw]
    congr 1
    · exact decide_eq_decide.2 ⟨fun c => (up 3).2 (c.imp (fun e => e.symm) id), fun c => ((up 3).1 c).imp (fun e => e.symm) id⟩
    · exact decide_eq_decide.2 ⟨fun c => (up 14).2 (c.imp (fun e => e.symm) id), fun c => ((up 14).1 c).imp (fun e => e.symm) id⟩
theorem JM1.same {A : Array Value} {val : Nat → Value} {wf : Bool → Bool → World} {l : Array Bool} {T : Array Value} {w : World} (h : JM1 A val wf l T w) (i : Nat) (hi : i < 15) (h3 : i ≠ 3) (h14 : i ≠ 14) (hdep : ∀ j ∈ dpM i, ltA l j) : JM1 A val wf (l.setIfInBounds i true) (T.setIfInBounds (25 + i) (val i)) w := by
  refine h.step i hi hdep ?_
  rw [h.wo]
  congr 1
  · exact decide_eq_decide.2 ⟨Or.inr, fun c => c.resolve_left h3⟩
  · exact decide_eq_decide.2 ⟨Or.inr, fun c => c.resolve_left h14⟩
/-- Behind it. -/
structure JM2 (A : Array Value) (val : Nat → Value) (G : Nat → Nat → World → Prop) (F : Nat) (l : Array Bool) (T : Array Value) (w : World) : Prop where
  sz : l.size = 18
  len : T.size = 102
  keep : ∀ j, j < 25 ∨ 42 ≤ j → T[j]? = A[j]?
  all : ∀ i, i < 16 → ltA l i
  vals : ∃ g' cap' w3, G g' cap' w3 ∧ (∀ i, i < 15 → T[25 + i]? = some (val i)) ∧ T[40]? = some (.slice (some ⟨g', 0, none⟩) 1 cap') ∧ (ltA l 16 → T[41]? = some (.pointer (some ⟨F, 3, none⟩))) ∧ (ltA l 17 → ltA l 16) ∧ (¬ ltA l 17 → w = w3) ∧ (ltA l 17 → w = w3.setCell ⟨F, 3, none⟩ (.slice (some ⟨g', 0, none⟩) 1 cap'))
/-- At the end. -/
def PM (A : Array Value) (val : Nat → Value) (G : Nat → Nat → World → Prop) (F : Nat) : Exit → Act → World → Prop
  | .normal, a, w => ∃ g' cap' w3, G g' cap' w3 ∧ a = ⟨(setsL A val 0 [25, 26, 27, 28, 29, 30, 31, 32, 33, 34, 35, 36, 37, 38, 39]).setIfInBounds 40 (.slice (some ⟨g', 0, none⟩) 1 cap') |>.setIfInBounds 41 (.pointer (some ⟨F, 3, none⟩)), []⟩ ∧ w = w3.setCell ⟨F, 3, none⟩ (.slice (some ⟨g', 0, none⟩) 1 cap')
  | _, _, _ => False
def GM (w0 : World) (E : Int) (b : RB) (q : Nat) (g' cap' : Nat) (w3 : World) : Prop := (∃ v, w3.cell? ⟨w0.heap.size, 3, none⟩ = some v) ∧ w3.frozen? ⟨w0.heap.size, 3, none⟩ = false ∧ LwI w0 (w3.setCell ⟨w0.heap.size, 3, none⟩ (.slice (some ⟨g', 0, none⟩) (([] : List RB).length + 1) cap')) E ([] ++ [b]) (some ⟨g', 0, none⟩) cap' ([] ++ [(some ⟨q, 0, none⟩, 1)])

theorem frameM {A T : Array Value} {val : Nat → Value} {p q : Value} (hs : A.size = 102) (hTs : T.size = 102) (hv : ∀ i, i < 15 → T[25 + i]? = some (val i)) (h40 : T[40]? = some p) (h41 : T[41]? = some q) (keep : ∀ j, j < 25 ∨ 42 ≤ j → T[j]? = A[j]?) :
    T = ((setsL A val 0 [25, 26, 27, 28, 29, 30, 31, 32, 33, 34, 35, 36, 37, 38, 39]).setIfInBounds 40 p).setIfInBounds 41 q := by
  have hnd : [25, 26, 27, 28, 29, 30, 31, 32, 33, 34, 35, 36, 37, 38, 39].Nodup := by decide
  have hS : ∀ u : Nat → Value, (setsL A u 0 [25, 26, 27, 28, 29, 30, 31, 32, 33, 34, 35, 36, 37, 38, 39]).size = 102 := fun u => by rw [setsL_size]; exact hs
  apply Array.ext_getElem?
  intro j
  by_cases h1 : j = 41
  · subst h1
    rw [T_self (by rw [Array.size_setIfInBounds, hS]; omega)]
    exact h41
  · rw [T_other (Ne.symm h1)]
    by_cases h0 : j = 40
    · subst h0
      rw [T_self (by rw [hS]; omega)]
      exact h40
    · rw [T_other (Ne.symm h0)]
      by_cases hj : 25 ≤ j ∧ j < 40
      · obtain ⟨i, rfl⟩ : ∃ i, j = 25 + i := ⟨j - 25, by omega⟩
        have hi : i < 15 := by omega
        rw [hv i hi, setsL_at _ (25 + i) _ 0 i A hnd (by rcases (show i = 0 ∨ i = 1 ∨ i = 2 ∨ i = 3 ∨ i = 4 ∨ i = 5 ∨ i = 6 ∨ i = 7 ∨ i = 8 ∨ i = 9 ∨ i = 10 ∨ i = 11 ∨ i = 12 ∨ i = 13 ∨ i = 14 by omega) with rfl | rfl | rfl | rfl | rfl | rfl | rfl | rfl | rfl | rfl | rfl | rfl | rfl | rfl | rfl <;> rfl) (by rw [hs]; omega), Nat.zero_add]
      · rw [setsL_not _ j _ 0 A (by simp; omega)]
        exact keep j (by omega)

set_option maxHeartbeats 8000000 in
theorem regionM (A : Array Value) (w0 W0 : World) (F X : Nat) (hF : F = w0.heap.size) (n m n1 x0 y0 E : Int) (hs : A.size = 102) (t0 : A[0]? = some (.int .i64 n)) (t1 : A[1]? = some (.int .i64 m)) (t5 : A[5]? = some (.pointer (some ⟨F, 0, none⟩))) (t7 : A[7]? = some (.func (.func 4) #[] #[.pointer (some ⟨X, 0, none⟩)]))
    (hn1 : IntKind.i64.wrap (1 + n) = n1) (hX : X = F + 1) (hsz : W0.heap.size = F + 2)
    (HC1 : Hd (∀ W : World, W.cell? ⟨X, 0, none⟩ = some (.int .i64 E) → Calls Try.prog 4 #[.int .i64 n, .int .i64 1, .pointer (some ⟨X, 0, none⟩)] W fun e w' => e = .returned (.int .i64 x0) ∧ w' = W))
    (HC2 : Hd (∀ W : World, W.cell? ⟨X, 0, none⟩ = some (.int .i64 E) → Calls Try.prog 4 #[.int .i64 m, .int .i64 n1, .pointer (some ⟨X, 0, none⟩)] W fun e w' => e = .returned (.int .i64 y0) ∧ w' = W))
    (S0 : Hd (LwI w0 W0 E [] none 0 [])) :
    Code.wp Try.prog ((Try.f3.body.bind (regionAt 5)).getD .skip) (PM A (vM F X n m n1 x0 y0 W0) (GM w0 E ⟨1, ⟨2, 0, x0, y0⟩⟩ W0.heap.size) F) ⟨A, []⟩ W0 := by
  obtain ⟨iK, hi, hz0, hz1, hz2⟩ := k_infoK
  have HI := hide hi
  have Z0 := hide hz0
  have Z1 := hide hz1
  have Z2 := hide hz2
  have HFe := hide hF
  have HXe := hide hX
  have HSz := hide hsz
  clear hi hz0 hz1 hz2 hF hX hsz
  have HW : Hd (∀ p q : Bool, Ext W0 (wM x0 y0 W0 p q)) := fun p q => by
    cases p
    · exact Ext.drew (Ext.refl _)
    · cases q
      · exact Ext.drew (Ext.alloc _ _)
      · exact Ext.drew (ext2 _ _)
  conv => arg 2; whnf
  refine wp_region_any (by kernel_rfl) (wpAny_inv (fun l a w => a.defers = [] ∧ (JM1 A (vM F X n m n1 x0 y0 W0) (wM x0 y0 W0) l a.tmps w ∨ JM2 A (vM F X n m n1 x0 y0 W0) (GM w0 E ⟨1, ⟨2, 0, x0, y0⟩⟩ W0.heap.size) F l a.tmps w)) ?_ ?_ _ _ _ _ ?_ ?_)
  · rintro l ⟨T, d⟩ w ⟨hd, hI⟩ k hk
    obtain rfl : d = [] := hd
    have hnd := not_ltA (ready_open hk)
    have hr := hk
    unfold Region.ready at hr
    rw [List.mem_filter] at hr
    obtain ⟨hr1, hr2⟩ := hr
    have hN : k < 18 := by simpa using hr1
    clear hr1 hk
    rcases hI with hI | hI
    · have hI : JM1 A (vM F X n m n1 x0 y0 W0) (wM x0 y0 W0) l T w := hI
      have hTs : T.size = 102 := hI.len
      have u0 : T[0] = .int .i64 n := atA (T := T) (i := 0) ((hI.keep 0 (by omega)).trans t0) (by omega)
      have u1 : T[1] = .int .i64 m := atA (T := T) (i := 1) ((hI.keep 1 (by omega)).trans t1) (by omega)
      have u5 : T[5] = .pointer (some ⟨F, 0, none⟩) := atA (T := T) (i := 5) ((hI.keep 5 (by omega)).trans t5) (by omega)
      have u7 : T[7] = .func (.func 4) #[] #[.pointer (some ⟨X, 0, none⟩)] := atA (T := T) (i := 7) ((hI.keep 7 (by omega)).trans t7) (by omega)
      have hx : Ext W0 w := by rw [hI.wo]; exact unhide HW _ _
      have cX : w.cell? ⟨X, 0, none⟩ = some (.int .i64 E) := by
        have := ((unhide S0).eb.on hx).cell 0 rfl
        rw [unhide HXe, unhide HFe]
        exact this
      have cF : w.cell? ⟨F, 3, none⟩ = some (.slice none 0 0) := by
        have := ((unhide S0).fb.on hx).cell 3 rfl
        rw [unhide HFe]
        exact this
      rcases (show k = 0 ∨ k = 1 ∨ k = 2 ∨ k = 3 ∨ k = 4 ∨ k = 5 ∨ k = 6 ∨ k = 7 ∨ k = 8 ∨ k = 9 ∨ k = 10 ∨ k = 11 ∨ k = 12 ∨ k = 13 ∨ k = 14 ∨ k = 15 ∨ k = 16 ∨ k = 17 by omega) with rfl | rfl | rfl | rfl | rfl | rfl | rfl | rfl | rfl | rfl | rfl | rfl | rfl | rfl | rfl | rfl | rfl | rfl
      · simp [Region.binds] at hr2
        refine wpOp_want rfl (by simp [Region.wanted, yielded, hTs]) ?_
        clear hr2
        go_simp
        exact Or.inl (hI.same 0 (by omega) (by omega) (by omega) (fun j hj => by cases hj))
      · simp [Region.binds] at hr2
        have d0 : ltA l 0 := (by first | exact hr2.2 | exact hr2.2.1 | exact hr2.2.2 | exact hr2.2.2.1 | exact hr2.2.2.2 | exact hr2.2.2.2.1 | exact hr2.2.2.2.2 | exact hr2.1.1 | exact hr2.1.2 | simp_all)
        have v0 : T[25] = .pointer (some ⟨F, 3, none⟩) := atA (T := T) (i := 25) (hI.ph 0 (by omega) d0) (by omega)
        refine wpOp_want rfl (by simp [Region.wanted, yielded, hTs]) ?_
        clear hr2
        go_simp
        exact Or.inl (hI.same 1 (by omega) (by omega) (by omega) (by show ∀ j ∈ [0], ltA l j; simp only [List.mem_cons, List.not_mem_nil, or_false, forall_eq_or_imp, forall_eq]; exact d0))
      · simp [Region.binds] at hr2
        refine wpOp_want rfl (by simp [Region.wanted, yielded, hTs]) ?_
        clear hr2
        go_simp
        exact Or.inl (hI.same 2 (by omega) (by omega) (by omega) (fun j hj => by cases hj))
      · simp [Region.binds] at hr2
        have d2 : ltA l 2 := (by first | exact hr2.2 | exact hr2.2.1 | exact hr2.2.2 | exact hr2.2.2.1 | exact hr2.2.2.2 | exact hr2.2.2.2.1 | exact hr2.2.2.2.2 | exact hr2.1.1 | exact hr2.1.2 | simp_all)
        have v2 : T[27] = outV := atA (T := T) (i := 27) (hI.ph 2 (by omega) d2) (by omega)
        have n14 : ¬ ltA l 14 := fun c => hnd (hI.dn 13 (hI.dn 14 c 13 (by show 13 ∈ [13]; decide)) 3 (by show 3 ∈ [3, 12]; decide))
        have ew : w = W0.drew := by rw [hI.wo, decide_eq_false hnd]; rfl
        subst ew
        refine wpOp_want rfl (by simp [Region.wanted, yielded, hTs]) ?_
        clear hr2
        go_simp
        exact Or.inl (hI.step 3 (by omega) (by show ∀ j ∈ [2], ltA l j; simp only [List.mem_cons, List.not_mem_nil, or_false, forall_eq_or_imp, forall_eq]; exact d2) (by rw [decide_eq_true (Or.inl rfl), decide_eq_false (fun c => n14 (c.resolve_left (by omega)))]; rfl))
      · simp [Region.binds] at hr2
        refine wpOp_want rfl (by simp [Region.wanted, yielded, hTs]) ?_
        clear hr2
        go_simp
        exact Or.inl (hI.same 4 (by omega) (by omega) (by omega) (fun j hj => by cases hj))
      · simp [Region.binds] at hr2
        refine wpOp_want rfl (by simp [Region.wanted, yielded, hTs]) ?_
        clear hr2
        go_simp
        exact Or.inl (hI.same 5 (by omega) (by omega) (by omega) (fun j hj => by cases hj))
      · simp [Region.binds] at hr2
        have d4 : ltA l 4 := (by first | exact hr2.2 | exact hr2.2.1 | exact hr2.2.2 | exact hr2.2.2.1 | exact hr2.2.2.2 | exact hr2.2.2.2.1 | exact hr2.2.2.2.2 | exact hr2.1.1 | exact hr2.1.2 | simp_all)
        have d5 : ltA l 5 := (by first | exact hr2.2 | exact hr2.2.1 | exact hr2.2.2 | exact hr2.2.2.1 | exact hr2.2.2.2 | exact hr2.2.2.2.1 | exact hr2.2.2.2.2 | exact hr2.1.1 | exact hr2.1.2 | simp_all)
        have v4 : T[29] = .func (.func 4) #[] #[.pointer (some ⟨X, 0, none⟩)] := atA (T := T) (i := 29) (hI.ph 4 (by omega) d4) (by omega)
        have v5 : T[30] = .int .i64 n := atA (T := T) (i := 30) (hI.ph 5 (by omega) d5) (by omega)
        refine wpOp_want rfl (by simp [Region.wanted, yielded, hTs]) ?_
        clear hr2
        refine wp_clo (.tmp 29) (.tmp 30) (.const (.int .i64 1)) 3 3 rfl 4 (.int .i64 n) (.int .i64 1) (.pointer (some ⟨X, 0, none⟩)) (by simp [Act.eval, hTs, v4]) (by simp [Act.eval, hTs, v5]) (by simp [Act.eval]) (enterFirst _ _ _ _) ?_
        refine Calls.mono (unhide HC1 _ cX) ?_
        rintro e w' ⟨rfl, rfl⟩
        exact ⟨_, rfl, rfl, Or.inl (hI.same 6 (by omega) (by omega) (by omega) (by show ∀ j ∈ [4, 5], ltA l j; simp only [List.mem_cons, List.not_mem_nil, or_false, forall_eq_or_imp, forall_eq]; exact ⟨d4, d5⟩))⟩
      · simp [Region.binds] at hr2
        refine wpOp_want rfl (by simp [Region.wanted, yielded, hTs]) ?_
        clear hr2
        go_simp
        exact Or.inl (hI.same 7 (by omega) (by omega) (by omega) (fun j hj => by cases hj))
      · simp [Region.binds] at hr2
        refine wpOp_want rfl (by simp [Region.wanted, yielded, hTs]) ?_
        clear hr2
        go_simp
        exact Or.inl (hI.same 8 (by omega) (by omega) (by omega) (fun j hj => by cases hj))
      · simp [Region.binds] at hr2
        refine wpOp_want rfl (by simp [Region.wanted, yielded, hTs]) ?_
        clear hr2
        go_simp
        exact Or.inl (hI.same 9 (by omega) (by omega) (by omega) (fun j hj => by cases hj))
      · simp [Region.binds] at hr2
        have d9 : ltA l 9 := (by first | exact hr2.2 | exact hr2.2.1 | exact hr2.2.2 | exact hr2.2.2.1 | exact hr2.2.2.2 | exact hr2.2.2.2.1 | exact hr2.2.2.2.2 | exact hr2.1.1 | exact hr2.1.2 | simp_all)
        have v9 : T[34] = .int .i64 n := atA (T := T) (i := 34) (hI.ph 9 (by omega) d9) (by omega)
        refine wpOp_want rfl (by simp [Region.wanted, yielded, hTs]) ?_
        clear hr2
        go_simp
        exact Or.inl (hI.same 10 (by omega) (by omega) (by omega) (by show ∀ j ∈ [9], ltA l j; simp only [List.mem_cons, List.not_mem_nil, or_false, forall_eq_or_imp, forall_eq]; exact d9))
      · simp [Region.binds] at hr2
        have d7 : ltA l 7 := (by first | exact hr2.2 | exact hr2.2.1 | exact hr2.2.2 | exact hr2.2.2.1 | exact hr2.2.2.2 | exact hr2.2.2.2.1 | exact hr2.2.2.2.2 | exact hr2.1.1 | exact hr2.1.2 | simp_all)
        have d8 : ltA l 8 := (by first | exact hr2.2 | exact hr2.2.1 | exact hr2.2.2 | exact hr2.2.2.1 | exact hr2.2.2.2 | exact hr2.2.2.2.1 | exact hr2.2.2.2.2 | exact hr2.1.1 | exact hr2.1.2 | simp_all)
        have d10 : ltA l 10 := (by first | exact hr2.2 | exact hr2.2.1 | exact hr2.2.2 | exact hr2.2.2.1 | exact hr2.2.2.2 | exact hr2.2.2.2.1 | exact hr2.2.2.2.2 | exact hr2.1.1 | exact hr2.1.2 | simp_all)
        have d6 : ltA l 6 := (by first | exact hr2.2 | exact hr2.2.1 | exact hr2.2.2 | exact hr2.2.2.1 | exact hr2.2.2.2 | exact hr2.2.2.2.1 | exact hr2.2.2.2.2 | exact hr2.1.1 | exact hr2.1.2 | simp_all)
        have v7 : T[32] = .func (.func 4) #[] #[.pointer (some ⟨X, 0, none⟩)] := atA (T := T) (i := 32) (hI.ph 7 (by omega) d7) (by omega)
        have v8 : T[33] = .int .i64 m := atA (T := T) (i := 33) (hI.ph 8 (by omega) d8) (by omega)
        have v10 : T[35] = .int .i64 n1 := atA (T := T) (i := 35) (hI.ph 10 (by omega) d10) (by omega)
        have v6 : T[31] = .int .i64 x0 := atA (T := T) (i := 31) (hI.ph 6 (by omega) d6) (by omega)
        refine wpOp_want rfl (by simp [Region.wanted, yielded, hTs]) ?_
        clear hr2
        refine wp_clo (.tmp 32) (.tmp 33) (.tmp 35) 3 3 rfl 4 (.int .i64 m) (.int .i64 n1) (.pointer (some ⟨X, 0, none⟩)) (by simp [Act.eval, hTs, v7]) (by simp [Act.eval, hTs, v8]) (by simp [Act.eval, hTs, v10]) (enterFirst _ _ _ _) ?_
        refine Calls.mono (unhide HC2 _ cX) ?_
        rintro e w' ⟨rfl, rfl⟩
        exact ⟨_, rfl, rfl, Or.inl (hI.same 11 (by omega) (by omega) (by omega) (by show ∀ j ∈ [7, 8, 10, 6], ltA l j; simp only [List.mem_cons, List.not_mem_nil, or_false, forall_eq_or_imp, forall_eq]; exact ⟨d7, d8, d10, d6⟩))⟩
      · simp [Region.binds] at hr2
        have d6 : ltA l 6 := (by first | exact hr2.2 | exact hr2.2.1 | exact hr2.2.2 | exact hr2.2.2.1 | exact hr2.2.2.2 | exact hr2.2.2.2.1 | exact hr2.2.2.2.2 | exact hr2.1.1 | exact hr2.1.2 | simp_all)
        have d11 : ltA l 11 := (by first | exact hr2.2 | exact hr2.2.1 | exact hr2.2.2 | exact hr2.2.2.1 | exact hr2.2.2.2 | exact hr2.2.2.2.1 | exact hr2.2.2.2.2 | exact hr2.1.1 | exact hr2.1.2 | simp_all)
        have v6 : T[31] = .int .i64 x0 := atA (T := T) (i := 31) (hI.ph 6 (by omega) d6) (by omega)
        have v11 : T[36] = .int .i64 y0 := atA (T := T) (i := 36) (hI.ph 11 (by omega) d11) (by omega)
        refine wpOp_want rfl (by simp [Region.wanted, yielded, hTs]) ?_
        clear hr2
        go_simp
        exact Or.inl (hI.same 12 (by omega) (by omega) (by omega) (by show ∀ j ∈ [6, 11], ltA l j; simp only [List.mem_cons, List.not_mem_nil, or_false, forall_eq_or_imp, forall_eq]; exact ⟨d6, d11⟩))
      · simp [Region.binds] at hr2
        have d3 : ltA l 3 := (by first | exact hr2.2 | exact hr2.2.1 | exact hr2.2.2 | exact hr2.2.2.1 | exact hr2.2.2.2 | exact hr2.2.2.2.1 | exact hr2.2.2.2.2 | exact hr2.1.1 | exact hr2.1.2 | simp_all)
        have d12 : ltA l 12 := (by first | exact hr2.2 | exact hr2.2.1 | exact hr2.2.2 | exact hr2.2.2.1 | exact hr2.2.2.2 | exact hr2.2.2.2.1 | exact hr2.2.2.2.2 | exact hr2.1.1 | exact hr2.1.2 | simp_all)
        have v3 : T[28] = .slice (some ⟨W0.heap.size, 0, none⟩) 1 1 := atA (T := T) (i := 28) (hI.ph 3 (by omega) d3) (by omega)
        have v12 : T[37] = .agg #[.int .i64 2, .int .i64 0, .int .i64 x0, .int .i64 y0] := atA (T := T) (i := 37) (hI.ph 12 (by omega) d12) (by omega)
        refine wpOp_want rfl (by simp [Region.wanted, yielded, hTs]) ?_
        clear hr2
        go_simp
        exact Or.inl (hI.same 13 (by omega) (by omega) (by omega) (by show ∀ j ∈ [3, 12], ltA l j; simp only [List.mem_cons, List.not_mem_nil, or_false, forall_eq_or_imp, forall_eq]; exact ⟨d3, d12⟩))
      · simp [Region.binds] at hr2
        have d13 : ltA l 13 := (by first | exact hr2.2 | exact hr2.2.1 | exact hr2.2.2 | exact hr2.2.2.1 | exact hr2.2.2.2 | exact hr2.2.2.2.1 | exact hr2.2.2.2.2 | exact hr2.1.1 | exact hr2.1.2 | simp_all)
        have v13 : T[38] = .agg #[.slice (some ⟨W0.heap.size, 0, none⟩) 1 1, .int .i64 2, .int .i64 0, .int .i64 x0, .int .i64 y0] := atA (T := T) (i := 38) (hI.ph 13 (by omega) d13) (by omega)
        have d3 : ltA l 3 := hI.dn 13 d13 3 (by show 3 ∈ [3, 12]; decide)
        have ew : w = (W0.alloc (.cells #[.int .i64 6, .int .i64 0, .int .i64 0, .int .i64 0, .int .i64 0, .int .i64 0, .int .i64 0, .int .i64 0, .complex .f64 0 0, .string ⟨#[]⟩, .slice none 0 0, .slice none 0 0] 32)).drew := by rw [hI.wo, decide_eq_true d3, decide_eq_false hnd]; rfl
        subst ew
        refine wpOp_want rfl (by simp [Region.wanted, yielded, hTs]) ?_
        clear hr2
        go_simp
        exact Or.inl (hI.step 14 (by omega) (by show ∀ j ∈ [13], ltA l j; simp only [List.mem_cons, List.not_mem_nil, or_false, forall_eq_or_imp, forall_eq]; exact d13) (by rw [decide_eq_true (Or.inr d3), decide_eq_true (Or.inl rfl)]; rfl))
      · simp [Region.binds] at hr2
        have d1 : ltA l 1 := (by first | exact hr2.2 | exact hr2.2.1 | exact hr2.2.2 | exact hr2.2.2.1 | exact hr2.2.2.2 | exact hr2.2.2.2.1 | exact hr2.2.2.2.2 | exact hr2.1.1 | exact hr2.1.2 | simp_all)
        have d14 : ltA l 14 := (by first | exact hr2.2 | exact hr2.2.1 | exact hr2.2.2 | exact hr2.2.2.1 | exact hr2.2.2.2 | exact hr2.2.2.2.1 | exact hr2.2.2.2.2 | exact hr2.1.1 | exact hr2.1.2 | simp_all)
        have d11 : ltA l 11 := (by first | exact hr2.2 | exact hr2.2.1 | exact hr2.2.2 | exact hr2.2.2.1 | exact hr2.2.2.2 | exact hr2.2.2.2.1 | exact hr2.2.2.2.2 | exact hr2.1.1 | exact hr2.1.2 | simp_all)
        have v1 : T[26] = .slice none 0 0 := atA (T := T) (i := 26) (hI.ph 1 (by omega) d1) (by omega)
        have v14 : T[39] = .slice (some ⟨W0.heap.size + 1, 0, none⟩) 1 1 := atA (T := T) (i := 39) (hI.ph 14 (by omega) d14) (by omega)
        have v11 : T[36] = .int .i64 y0 := atA (T := T) (i := 36) (hI.ph 11 (by omega) d11) (by omega)
        have d13 : ltA l 13 := hI.dn 14 d14 13 (by show 13 ∈ [13]; decide)
        have d3 : ltA l 3 := hI.dn 13 d13 3 (by show 3 ∈ [3, 12]; decide)
        have d12 : ltA l 12 := hI.dn 13 d13 12 (by show 12 ∈ [3, 12]; decide)
        have d6 : ltA l 6 := hI.dn 12 d12 6 (by show 6 ∈ [6, 11]; decide)
        have d2 : ltA l 2 := hI.dn 3 d3 2 (by show 2 ∈ [2]; decide)
        have d0 : ltA l 0 := hI.dn 1 d1 0 (by show 0 ∈ [0]; decide)
        have d4 : ltA l 4 := hI.dn 6 d6 4 (by show 4 ∈ [4, 5]; decide)
        have d5 : ltA l 5 := hI.dn 6 d6 5 (by show 5 ∈ [4, 5]; decide)
        have d7 : ltA l 7 := hI.dn 11 d11 7 (by show 7 ∈ [7, 8, 10, 6]; decide)
        have d8 : ltA l 8 := hI.dn 11 d11 8 (by show 8 ∈ [7, 8, 10, 6]; decide)
        have d10 : ltA l 10 := hI.dn 11 d11 10 (by show 10 ∈ [7, 8, 10, 6]; decide)
        have d9 : ltA l 9 := hI.dn 10 d10 9 (by show 9 ∈ [9]; decide)
        have ew : w = ((W0.alloc (.cells #[.int .i64 6, .int .i64 0, .int .i64 0, .int .i64 0, .int .i64 0, .int .i64 0, .int .i64 0, .int .i64 0, .complex .f64 0 0, .string ⟨#[]⟩, .slice none 0 0, .slice none 0 0] 32)).alloc (.cells #[.slice (some ⟨W0.heap.size, 0, none⟩) 1 1, .int .i64 2, .int .i64 0, .int .i64 x0, .int .i64 y0] 37)).drew := by rw [hI.wo, decide_eq_true d3, decide_eq_true d14]; rfl
        have hall : ∀ i, i < 15 → ltA l i := by
          intro i hi
          rcases (show i = 0 ∨ i = 1 ∨ i = 2 ∨ i = 3 ∨ i = 4 ∨ i = 5 ∨ i = 6 ∨ i = 7 ∨ i = 8 ∨ i = 9 ∨ i = 10 ∨ i = 11 ∨ i = 12 ∨ i = 13 ∨ i = 14 by omega) with rfl | rfl | rfl | rfl | rfl | rfl | rfl | rfl | rfl | rfl | rfl | rfl | rfl | rfl | rfl <;> assumption
        refine wpOp_want rfl (by simp [Region.wanted, yielded, hTs]) ?_
        clear hr2
        have hB : w0.heap.size ≤ W0.heap.size := (unhide S0).ext.size
        refine wp_kapp (.tmp 26) (.tmp 39) 22 rfl w0.heap.size 37 iK (.agg #[.slice none 0 0, .int .i64 0, .int .i64 0, .int .i64 0, .int .i64 0]) 5 56 Try.underlying22 (unhide HI) (unhide Z0) (unhide Z1) (unhide Z2) rfl (by decide) none 0 0 [] (by simp [Act.eval, hTs, v1]) (World.ownsRow_nil _ _ _ _) ⟨W0.heap.size + 1, 0, none⟩ 1 1 (rbC ⟨1, ⟨2, 0, x0, y0⟩⟩ (some ⟨W0.heap.size, 0, none⟩, 1)) (by simp [Act.eval, hTs, v14]) (by decide) rfl (by rw [ew]; exact k_new (W0.alloc (.cells #[.int .i64 6, .int .i64 0, .int .i64 0, .int .i64 0, .int .i64 0, .int .i64 0, .int .i64 0, .int .i64 0, .complex .f64 0 0, .string ⟨#[]⟩, .slice none 0 0, .slice none 0 0] 32)) (W0.heap.size + 1) (sz1 _ _).symm [.slice (some ⟨W0.heap.size, 0, none⟩) 1 1, .int .i64 2, .int .i64 0, .int .i64 x0, .int .i64 y0] 37) (one_rbC _ _) (by unfold maxLen; omega) (by omega) (Nat.le_trans hB hx.size) ?_
        intro g' cap' w3 ho hgr
        have xx : Ext W0 w3 := hx.trans (ext_gb hgr)
        have r3 := (unhide S0).fb.on xx
        have hG : GM w0 E ⟨1, ⟨2, 0, x0, y0⟩⟩ W0.heap.size g' cap' w3 := by
          refine ⟨⟨_, r3.cell 3 rfl⟩, k_rowF r3 3, ?_⟩
          rw [ew] at hgr
          exact LwI.push (wr := (W0.alloc (.cells (outs 1).toArray 32)).drew) ((unhide S0).on (Ext.drew (Ext.alloc _ _))) ⟨1, ⟨2, 0, x0, y0⟩⟩ (some ⟨W0.heap.size, 0, none⟩, 1) (fun h => absurd h (by simp)) (own_out W0 w0.heap.size 1 W0.heap.size rfl hB (by omega)) hgr ho
        have hiz : 15 < l.size := by rw [hI.sz]; omega
        have up : ∀ j, ltA (l.setIfInBounds 15 true) j ↔ j = 15 ∨ ltA l j := fun j => ltA_set hiz
        have n16 : ¬ ltA l 16 := fun c => hI.n15 (hI.dn 16 c 15 (by show 15 ∈ [15]; decide))
        have n17 : ¬ ltA l 17 := fun c => n16 (hI.dn 17 c 16 (by show 16 ∈ [16]; decide))
        have m16 : ¬ ltA (l.setIfInBounds 15 true) 16 := fun c => ((up 16).1 c).elim (by omega) n16
        have m17 : ¬ ltA (l.setIfInBounds 15 true) 17 := fun c => ((up 17).1 c).elim (by omega) n17
        refine ⟨rfl, Or.inr ⟨by rw [Array.size_setIfInBounds]; exact hI.sz, by show (T.setIfInBounds 40 _).size = 102; rw [Array.size_setIfInBounds]; exact hTs, fun j hj => ?_, fun i hi => ?_, g', cap', w3, hG, fun i hi => ?_, ?_, fun c => absurd c m16, fun c => absurd c m17, fun _ => rfl, fun c => absurd c m17⟩⟩
        · show (T.setIfInBounds 40 _)[j]? = A[j]?
          rw [T_other (by omega)]
          exact hI.keep j (by omega)
        · by_cases e : i = 15
          · exact (up i).2 (Or.inl e)
          · exact (up i).2 (Or.inr (hall i (by omega)))
        · show (T.setIfInBounds 40 _)[25 + i]? = _
          rw [T_other (by omega)]
          exact hI.ph i hi (hall i hi)
        · show (T.setIfInBounds 40 _)[40]? = _
          exact T_self (by omega)
      · simp [Region.binds] at hr2
        exact absurd (show ltA l 15 from hr2.2.2.2.2.2.2.2.2.2.2.2.2.2.2.2.2) hI.n15
      · simp [Region.binds] at hr2
        exact absurd (show ltA l 15 from hr2.2.2.1) hI.n15
    · have hI : JM2 A (vM F X n m n1 x0 y0 W0) (GM w0 E ⟨1, ⟨2, 0, x0, y0⟩⟩ W0.heap.size) F l T w := hI
      have hTs : T.size = 102 := hI.len
      have u5 : T[5] = .pointer (some ⟨F, 0, none⟩) := atA (T := T) (i := 5) ((hI.keep 5 (by omega)).trans t5) (by omega)
      obtain ⟨g', cap', w3, hG, hv, h40, h41, h76, hw0, hw1⟩ := hI.vals
      have hk16 : 16 ≤ k := by
        rcases Nat.lt_or_ge k 16 with h | h
        · exact absurd (hI.all k h) hnd
        · exact h
      have hiz : k < l.size := by rw [hI.sz]; omega
      have up : ∀ j, ltA (l.setIfInBounds k true) j ↔ j = k ∨ ltA l j := fun j => ltA_set hiz
      rcases (show k = 16 ∨ k = 17 by omega) with rfl | rfl
      · have n17 : ¬ ltA l 17 := fun c => hnd (h76 c)
        have m17 : ¬ ltA (l.setIfInBounds 16 true) 17 := fun c => ((up 17).1 c).elim (by omega) n17
        refine wpOp_want rfl (by simp [Region.wanted, yielded, hTs]) ?_
        clear hr2
        have hR : JM2 A (vM F X n m n1 x0 y0 W0) (GM w0 E ⟨1, ⟨2, 0, x0, y0⟩⟩ W0.heap.size) F (l.setIfInBounds 16 true) (T.setIfInBounds 41 (.pointer (some ⟨F, 3, none⟩))) w := by
          refine ⟨by rw [Array.size_setIfInBounds]; exact hI.sz, by rw [Array.size_setIfInBounds]; exact hTs, fun j hj => by rw [T_other (by omega)]; exact hI.keep j hj, fun i hi => (up i).2 (Or.inr (hI.all i hi)), g', cap', w3, hG, fun i hi => by rw [T_other (by omega)]; exact hv i hi, by rw [T_other (by omega)]; exact h40, fun _ => T_self (by omega), fun c => absurd c m17, fun _ => hw0 n17, fun c => absurd c m17⟩
        clear hI hG hv h40 h41 h76 hw0 hw1
        go_simp
      · have d16 : ltA l 16 := by
          simp [Region.binds] at hr2
          exact hr2.2.1
        have ew : w = w3 := hw0 hnd
        subst ew
        have v40 : T[40] = .slice (some ⟨g', 0, none⟩) 1 cap' := atA (T := T) (i := 40) h40 (by omega)
        have v41 : T[41] = .pointer (some ⟨F, 3, none⟩) := atA (T := T) (i := 41) (h41 d16) (by omega)
        obtain ⟨⟨v, cv⟩, fv, hL⟩ := hG
        rw [← unhide HFe] at cv fv
        have hR : JM2 A (vM F X n m n1 x0 y0 W0) (GM w0 E ⟨1, ⟨2, 0, x0, y0⟩⟩ W0.heap.size) F (l.setIfInBounds 17 true) T (w.setCell ⟨F, 3, none⟩ (.slice (some ⟨g', 0, none⟩) 1 cap')) := by
          refine ⟨by rw [Array.size_setIfInBounds]; exact hI.sz, hTs, hI.keep, fun i hi => (up i).2 (Or.inr (hI.all i hi)), g', cap', w, ⟨⟨v, by rw [← unhide HFe]; exact cv⟩, by rw [← unhide HFe]; exact fv, hL⟩, hv, h40, fun _ => h41 d16, fun _ => (up 16).2 (Or.inr d16), fun c => absurd ((up 17).2 (Or.inl rfl)) c, fun _ => rfl⟩
        refine wpOp_want rfl (by simp [Region.wanted, yielded, hTs]) ?_
        clear hr2 hI hv h40 h41 h76 hw0 hw1 hL
        go_simp
  · rintro l ⟨T, d⟩ w ⟨hd, hI⟩ hz
    obtain rfl : d = [] := hd
    have hsz : l.size = 18 := by rcases hI with hI | hI <;> exact hI.sz
    have up : ∀ k, k < 18 → (ltA l k → False) → l[k]?.getD true = false := fun k hk hc => by
      have hkl : k < l.size := by rw [hsz]; exact hk
      have e : l[k]? = some l[k] := Array.getElem?_eq_getElem hkl
      rw [e]
      cases hb : l[k] with
      | false => rfl
      | true => exact absurd (by unfold ltA; rw [e, hb]; rfl) hc
    have r0 : l[0]?.getD false = true := Classical.byContradiction fun hc => by
      have hb := up 0 (by omega) hc
      refine absurd (?_ : 0 ∈ Region.ready _ _ l) (by rw [hz]; simp)
      unfold Region.ready
      rw [List.mem_filter]
      exact ⟨by simp, by simp [Region.binds, hb]⟩
    have r1 : l[1]?.getD false = true := Classical.byContradiction fun hc => by
      have hb := up 1 (by omega) hc
      refine absurd (?_ : 1 ∈ Region.ready _ _ l) (by rw [hz]; simp)
      unfold Region.ready
      rw [List.mem_filter]
      exact ⟨by simp, by simp [Region.binds, hb, r0]⟩
    have r2 : l[2]?.getD false = true := Classical.byContradiction fun hc => by
      have hb := up 2 (by omega) hc
      refine absurd (?_ : 2 ∈ Region.ready _ _ l) (by rw [hz]; simp)
      unfold Region.ready
      rw [List.mem_filter]
      exact ⟨by simp, by simp [Region.binds, hb, r0, r1]⟩
    have r3 : l[3]?.getD false = true := Classical.byContradiction fun hc => by
      have hb := up 3 (by omega) hc
      refine absurd (?_ : 3 ∈ Region.ready _ _ l) (by rw [hz]; simp)
      unfold Region.ready
      rw [List.mem_filter]
      exact ⟨by simp, by simp [Region.binds, hb, r0, r1, r2]⟩
    have r4 : l[4]?.getD false = true := Classical.byContradiction fun hc => by
      have hb := up 4 (by omega) hc
      refine absurd (?_ : 4 ∈ Region.ready _ _ l) (by rw [hz]; simp)
      unfold Region.ready
      rw [List.mem_filter]
      exact ⟨by simp, by simp [Region.binds, hb, r0, r1, r2, r3]⟩
    have r5 : l[5]?.getD false = true := Classical.byContradiction fun hc => by
      have hb := up 5 (by omega) hc
      refine absurd (?_ : 5 ∈ Region.ready _ _ l) (by rw [hz]; simp)
      unfold Region.ready
      rw [List.mem_filter]
      exact ⟨by simp, by simp [Region.binds, hb, r0, r1, r2, r3, r4]⟩
    have r6 : l[6]?.getD false = true := Classical.byContradiction fun hc => by
      have hb := up 6 (by omega) hc
      refine absurd (?_ : 6 ∈ Region.ready _ _ l) (by rw [hz]; simp)
      unfold Region.ready
      rw [List.mem_filter]
      exact ⟨by simp, by simp [Region.binds, hb, r0, r1, r2, r3, r4, r5]⟩
    have r7 : l[7]?.getD false = true := Classical.byContradiction fun hc => by
      have hb := up 7 (by omega) hc
      refine absurd (?_ : 7 ∈ Region.ready _ _ l) (by rw [hz]; simp)
      unfold Region.ready
      rw [List.mem_filter]
      exact ⟨by simp, by simp [Region.binds, hb, r0, r1, r2, r3, r4, r5, r6]⟩
    have r8 : l[8]?.getD false = true := Classical.byContradiction fun hc => by
      have hb := up 8 (by omega) hc
      refine absurd (?_ : 8 ∈ Region.ready _ _ l) (by rw [hz]; simp)
      unfold Region.ready
      rw [List.mem_filter]
      exact ⟨by simp, by simp [Region.binds, hb, r0, r1, r2, r3, r4, r5, r6, r7]⟩
    have r9 : l[9]?.getD false = true := Classical.byContradiction fun hc => by
      have hb := up 9 (by omega) hc
      refine absurd (?_ : 9 ∈ Region.ready _ _ l) (by rw [hz]; simp)
      unfold Region.ready
      rw [List.mem_filter]
      exact ⟨by simp, by simp [Region.binds, hb, r0, r1, r2, r3, r4, r5, r6, r7, r8]⟩
    have r10 : l[10]?.getD false = true := Classical.byContradiction fun hc => by
      have hb := up 10 (by omega) hc
      refine absurd (?_ : 10 ∈ Region.ready _ _ l) (by rw [hz]; simp)
      unfold Region.ready
      rw [List.mem_filter]
      exact ⟨by simp, by simp [Region.binds, hb, r0, r1, r2, r3, r4, r5, r6, r7, r8, r9]⟩
    have r11 : l[11]?.getD false = true := Classical.byContradiction fun hc => by
      have hb := up 11 (by omega) hc
      refine absurd (?_ : 11 ∈ Region.ready _ _ l) (by rw [hz]; simp)
      unfold Region.ready
      rw [List.mem_filter]
      exact ⟨by simp, by simp [Region.binds, hb, r0, r1, r2, r3, r4, r5, r6, r7, r8, r9, r10]⟩
    have r12 : l[12]?.getD false = true := Classical.byContradiction fun hc => by
      have hb := up 12 (by omega) hc
      refine absurd (?_ : 12 ∈ Region.ready _ _ l) (by rw [hz]; simp)
      unfold Region.ready
      rw [List.mem_filter]
      exact ⟨by simp, by simp [Region.binds, hb, r0, r1, r2, r3, r4, r5, r6, r7, r8, r9, r10, r11]⟩
    have r13 : l[13]?.getD false = true := Classical.byContradiction fun hc => by
      have hb := up 13 (by omega) hc
      refine absurd (?_ : 13 ∈ Region.ready _ _ l) (by rw [hz]; simp)
      unfold Region.ready
      rw [List.mem_filter]
      exact ⟨by simp, by simp [Region.binds, hb, r0, r1, r2, r3, r4, r5, r6, r7, r8, r9, r10, r11, r12]⟩
    have r14 : l[14]?.getD false = true := Classical.byContradiction fun hc => by
      have hb := up 14 (by omega) hc
      refine absurd (?_ : 14 ∈ Region.ready _ _ l) (by rw [hz]; simp)
      unfold Region.ready
      rw [List.mem_filter]
      exact ⟨by simp, by simp [Region.binds, hb, r0, r1, r2, r3, r4, r5, r6, r7, r8, r9, r10, r11, r12, r13]⟩
    have r15 : l[15]?.getD false = true := Classical.byContradiction fun hc => by
      have hb := up 15 (by omega) hc
      refine absurd (?_ : 15 ∈ Region.ready _ _ l) (by rw [hz]; simp)
      unfold Region.ready
      rw [List.mem_filter]
      exact ⟨by simp, by simp [Region.binds, hb, r0, r1, r2, r3, r4, r5, r6, r7, r8, r9, r10, r11, r12, r13, r14]⟩
    have r16 : l[16]?.getD false = true := Classical.byContradiction fun hc => by
      have hb := up 16 (by omega) hc
      refine absurd (?_ : 16 ∈ Region.ready _ _ l) (by rw [hz]; simp)
      unfold Region.ready
      rw [List.mem_filter]
      exact ⟨by simp, by simp [Region.binds, hb, r0, r1, r2, r3, r4, r5, r6, r7, r8, r9, r10, r11, r12, r13, r14, r15]⟩
    have r17 : l[17]?.getD false = true := Classical.byContradiction fun hc => by
      have hb := up 17 (by omega) hc
      refine absurd (?_ : 17 ∈ Region.ready _ _ l) (by rw [hz]; simp)
      unfold Region.ready
      rw [List.mem_filter]
      exact ⟨by simp, by simp [Region.binds, hb, r0, r1, r2, r3, r4, r5, r6, r7, r8, r9, r10, r11, r12, r13, r14, r15, r16]⟩
    rcases hI with hI | hI
    · exact absurd r15 hI.n15
    · have hI : JM2 A (vM F X n m n1 x0 y0 W0) (GM w0 E ⟨1, ⟨2, 0, x0, y0⟩⟩ W0.heap.size) F l T w := hI
      obtain ⟨g', cap', w3, hG, hv, h40, h41, h76, hw0, hw1⟩ := hI.vals
      refine ⟨g', cap', w3, hG, ?_, hw1 r17⟩
      exact congrArg (fun t => (⟨t, []⟩ : Act)) (frameM hs hI.len hv h40 (h41 r16) (fun j hj => hI.keep j hj))
  · exact Nat.le_refl 18
  · have no : ∀ N i, ¬ ltA (Array.replicate N false) i := fun N i h => by
      unfold ltA at h
      rw [Array.getElem?_replicate] at h
      split at h <;> cases h
    exact ⟨rfl, Or.inl ⟨by simp, hs, fun _ _ => rfl, fun i h => absurd h (no _ i), no _ 15, fun i _ h => absurd h (no _ i), by rw [decide_eq_false (no _ 3)]; rfl⟩⟩

end Go.Proofs.Ytdnhekgbfhlhoaa
