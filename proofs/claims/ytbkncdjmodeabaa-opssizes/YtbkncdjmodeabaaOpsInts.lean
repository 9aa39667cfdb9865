/- The list of the law OpsWholes: what is pushed stands last and is got again. -/
import Derived.Test.YtbkncdjmodeabaaOpsAwake
set_option linter.unusedSimpArgs false
set_option maxRecDepth 10000
namespace Go.Proofs.Ytbkncdjmodeabaa
open Go.RowKit

/-- A call of a function of three arguments as one step of a region that draws its order. -/
theorem step_call_three {P : Program} {w : World} {ops : Array Oper} {o : Oper} {a : Act} {K : Act → World → Prop} {Q : Exit → Act → World → Prop} {E : Prop}
    (hg : o.guard = none) (f : FuncId) (x y z : Operand) (t u s : TypeId) (hop : o.op = Op.call { callee := Callee.value (.func f), args := #[x, y, z], argTypes := #[t, u, s] })
    (v v' v'' : Value) (hx : a.eval x = v) (hy : a.eval y = v') (hz : a.eval z = v'') (hf : (callFunc f #[v, v', v'']).run P w = .ok (.enter f #[v, v', v'']) w) (hK : Calls P f #[v, v', v''] w fun e w' => ∃ r, e = .returned r ∧ K (a.put o.dst r) w') :
    if Region.wanted o (yielded ops a.tmps) = true then Oper.wp P o a w K Q else E := by
  have hw : Region.wanted o (yielded ops a.tmps) = true := by simp [Region.wanted, hg]
  rw [if_pos hw]
  have he : a.eval (.func f) = .func (.func f) #[] #[] := rfl
  unfold Oper.wp
  have hrun : (execOp a.eval o).run P w = .ok (.enter f #[v, v', v'']) w := by
    simp [execOp, hop, resolve, invoke, hx, hy, hz, he, Result.andThen, Deferred.ofValue, hf]
  rw [hrun, Oper.upon_enter]
  refine hK.mono ?_
  rintro e w' ⟨r, rfl, h⟩
  exact h

theorem enterRInt (v : Value) (w : World) : (callFunc 5 #[v]).run Try.prog w = .ok (.enter 5 #[v]) w := by kernel_rfl
theorem enterBinary (v u x : Value) (w : World) : (callFunc 6 #[v, u, x]).run Try.prog w = .ok (.enter 6 #[v, u, x]) w := by kernel_rfl

/-- The ints below j, in their order. -/
def ints (j : Nat) : List PV := (List.range j).map fun (i : Nat) => it (i : Int)
theorem ints_len (j : Nat) : (ints j).length = j := by simp [ints]
theorem ints_ones (j : Nat) : Ones (ints j) := by
  intro x hx
  simp only [ints, List.mem_map] at hx
  obtain ⟨i, _, rfl⟩ := hx
  exact ones_it _
theorem ints_succ (j : Nat) : ints (j + 1) = ints j ++ [it (j : Int)] := by simp [ints, List.range_succ]
theorem ints_last (j : Nat) : (ints (j + 1))[j]? = some (it (j : Int)) := by simp [ints]

theorem rep_ls {w : World} {F : Nat → Prop} {l : List PV} {a : Option Addr} {n c : Nat} (hn : n = l.length) (hl : RepL w F l a) (hb : l.length ≤ 1100) (hc : n ≤ c) : Rep w F (ls l) (.agg #[.int .i64 4, .int .i64 0, .complex .f64 0 0, .string ⟨#[]⟩, .slice a n c]) := by
  subst hn
  rw [ls, Rep]
  exact ⟨a, c, rfl, ⟨by decide, by decide, by decide, by decide, by decide, by decide, by decide, by omega, hc⟩, hl⟩

theorem bin_push (j : Nat) (hj : j ≤ 15) (a : Option Addr) (c : Nat) (w : World) (hl : RepL w (In w) (ints j) a) (hc : j ≤ c) :
    Ans 6 #[.int .i64 13, .agg #[.int .i64 4, .int .i64 0, .complex .f64 0 0, .string ⟨#[]⟩, .slice a j c], .agg #[.int .i64 1, .int .i64 (j : Int), .complex .f64 0 0, .string ⟨#[]⟩, .slice none 0 0]] w (ls (ints (j + 1))) 0 := by
  refine binary_any 13 30 (by decide) (by decide) (fun W => by kernel_rfl) (fun v u W => by kernel_rfl) (ls (ints j)) (it j) _ _ w (rep_ls (ints_len j).symm hl (by rw [ints_len]; omega) hc) (rep_it _ _ _ (by omega) (by omega) _ _) _ _ fun W hW => ?_
  have hok : okv (ls (ints j)) = true := by rw [(ints_ones j).ok, ints_len]; exact decide_eq_true (by omega)
  rw [okv_it, hok, if_pos rfl, if_pos rfl]
  have hq : listP (ints j ++ [PV.mk 1 (j : Int) 0 0 ⟨#[]⟩ []]) = ls (ints (j + 1)) := by
    have e : ints j ++ [PV.mk 1 (j : Int) 0 0 ⟨#[]⟩ []] = ints (j + 1) := (ints_succ j).symm
    rw [e, (ints_ones (j + 1)).listP, ints_len, if_pos (by omega)]
  have h := push_any (ints j) 1 [] 0 (j : Int) 0 0 0 0 ⟨#[]⟩ ⟨#[]⟩ a none c 0 W (hl.ext hW) ⟨by decide, by decide, by omega, by omega, by decide, by decide, by decide, by decide, by decide⟩ (by simp [RepL]) (by rw [ints_len]; omega) _ hq
  rw [ints_len] at h
  exact h

theorem bin_get (j : Nat) (hj : j ≤ 15) (a : Option Addr) (c : Nat) (w : World) (hl : RepL w (In w) (ints (j + 1)) a) (hc : j + 1 ≤ c) :
    Ans 6 #[.int .i64 12, .agg #[.int .i64 4, .int .i64 0, .complex .f64 0 0, .string ⟨#[]⟩, .slice a (j + 1) c], .agg #[.int .i64 1, .int .i64 (j : Int), .complex .f64 0 0, .string ⟨#[]⟩, .slice none 0 0]] w (it j) 0 := by
  refine binary_any 12 29 (by decide) (by decide) (fun W => by kernel_rfl) (fun v u W => by kernel_rfl) (ls (ints (j + 1))) (it j) _ _ w (rep_ls (ints_len _).symm hl (by rw [ints_len]; omega) hc) (rep_it _ _ _ (by omega) (by omega) _ _) _ _ fun W hW => ?_
  have hok : okv (ls (ints (j + 1))) = true := by rw [(ints_ones (j + 1)).ok, ints_len]; exact decide_eq_true (by omega)
  rw [okv_it, hok, if_pos rfl, if_pos rfl]
  have h := get_list (ints (j + 1)) j (it j) 0 0 0 0 0 ⟨#[]⟩ ⟨#[]⟩ a none c 0 0 W (hl.ext hW) (ints_last j) (it j) (by rw [cp, tk_it, norm_it]) rfl
  rw [ints_len] at h
  exact h

theorem un_len (l : List PV) (h1 : Ones l) (hj : l.length ≤ 999) (n : Nat) (hn : n = l.length) (a : Option Addr) (c : Nat) (w : World) (hl : RepL w (In w) l a) (hc : n ≤ c) :
    Ans 9 #[.int .i64 17, .agg #[.int .i64 4, .int .i64 0, .complex .f64 0 0, .string ⟨#[]⟩, .slice a n c]] w (it n) 0 := by
  refine unary_any 17 35 (by decide) (by decide) (fun W => by kernel_rfl) (fun v W => by kernel_rfl) (ls l) _ w (rep_ls hn hl (by omega) hc) _ _ fun W hW => ?_
  rw [h1.ok, decide_eq_true hj, if_pos rfl]
  exact howMany_list 0 0 0 ⟨#[]⟩ a n c W (by omega)

theorem Five.ofRow {w : World} {g : Nat} {t : TypeId} {k n : Int} {re im : Nat} {s : ByteArray} {a : Option Addr} {l c : Nat} (h : w.heap[g]? = some (.cells #[.int .i64 k, .int .i64 n, .complex .f64 re im, .string s, .slice a l c] t (0, 0))) : Five w g k n re im s a l c :=
  ⟨rowC h 0 rfl, rowC h 1 rfl, rowC h 2 rfl, rowC h 3 rfl, rowC h 4 rfl, rowF h⟩

/-- The list as it stands at a round's start: its variable's row, its values elsewhere. -/
structure LI (w wr : World) (g j : Nat) : Prop where
  ext : Ext w wr
  hg : w.heap.size ≤ g
  row : ∃ (ap : Option Addr) (cp : Nat), wr.heap[g]? = some (.cells #[.int .i64 4, .int .i64 0, .complex .f64 0 0, .string ⟨#[]⟩, .slice ap j cp] 25 (0, 0)) ∧ RepL wr (fun b => b < wr.heap.size ∧ b ≠ g) (ints j) ap ∧ j ≤ cp

theorem LI.next {w wr w1 w2 w4 : World} {g j : Nat} {a2 : Option Addr} {c2 : Nat} (h : LI w wr g j) (h1 : Ext wr w1) (h12 : Ext w1 w2) (h4 : Ext w2 w4) (hl : RepL w2 (Fresh w1 w2) (ints (j + 1)) a2) (hc : j + 1 ≤ c2) :
    LI w (set5 w4 g 4 0 0 0 ⟨#[]⟩ a2 (j + 1) c2) g (j + 1) := by
  obtain ⟨ap, cp, hrow, _, _⟩ := h.row
  have hlt : g < wr.heap.size := (Array.getElem?_eq_some_iff.1 hrow).1
  have h14 := (h1.trans h12).trans h4
  refine ⟨set5_ext (h.ext.trans h14) g h.hg _ _ _ _ _ _ _ _, h.hg, a2, c2, ?_, ?_, hc⟩
  · unfold set5
    rw [row_set (row_set (row_set (row_set (row_set (h14.row hrow) _ _) _ _) _ _) _ _) _ _]
    rfl
  · have hs := set5_size w4 g 4 0 0 0 ⟨#[]⟩ a2 (j + 1) c2
    have g1 := h1.le
    have g4 := h4.le
    refine RepL.to (fun b hb => ⟨⟨?fa, ?fb⟩, ?fc⟩) _ _ hl
    case fa => rw [hs]; exact Nat.lt_of_lt_of_le hb.2 g4
    case fb => have := hb.1; omega
    case fc =>
      rw [set5_other w4 g b (by have := hb.1; omega)]
      exact h4.block b hb.2

end Go.Proofs.Ytbkncdjmodeabaa
