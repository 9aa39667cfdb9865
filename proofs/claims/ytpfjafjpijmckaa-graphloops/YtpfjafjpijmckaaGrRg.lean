/- The document's own way through points: from. -/
import Derived.Test.YtpfjafjpijmckaaGrRf
set_option linter.unusedSimpArgs false
set_option linter.unusedVariables false
set_option maxRecDepth 10000
namespace Go.Proofs.Ytpfjafjpijmckaa
open Go.RowKit

def rScan (bar : Int) : List Nat → List Bool → List Nat → Option (List Bool × List Nat)
  | [], on', todo => some (on', todo)
  | q :: r, on', todo => if (q : Int) = bar then rScan bar r on' todo else match on'[q]? with
    | none => none
    | some true => rScan bar r on' todo
    | some false => rScan bar r (on'.set q true) (todo ++ [q])
def rRun (g : List (List Nat)) (bar : Int) : Nat → List Bool → List Nat → Option (List Bool)
  | 0, _, _ => none
  | k + 1, on', todo => match todo.getLast? with
    | none => some on'
    | some p => match g[p]? with
      | none => none
      | some l => match rScan bar l on' todo.dropLast with
        | none => none
        | some (on2, todo2) => rRun g bar k on2 todo2
def rFrom (g : List (List Nat)) (at' bar : Int) (K : Nat) : Option (List Bool) :=
  if at' < 0 ∨ (g.length : Int) ≤ at' ∨ at' = bar then some (List.replicate g.length false) else rRun g bar K ((List.replicate g.length false).set at'.toNat true) [at'.toNat]
theorem rScan_len (bar : Int) : ∀ (l : List Nat) (on' : List Bool) (todo : List Nat) (r : List Bool × List Nat), rScan bar l on' todo = some r → r.1.length = on'.length ∧ r.2.length ≤ todo.length + l.length
  | [], on', todo, r, h => by rw [rScan] at h; injection h with h; subst h; simp
  | q :: l, on', todo, r, h => by
    rw [rScan] at h
    split at h
    · have := rScan_len bar l _ _ r h
      simp only [List.length_cons]; omega
    · split at h
      · cases h
      · have := rScan_len bar l _ _ r h
        simp only [List.length_cons]; omega
      · have := rScan_len bar l _ _ r h
        simp only [List.length_cons, List.length_append, List.length_set, List.length_nil] at this ⊢
        omega

/-- On the way. -/
structure RgS (w wr : World) (On n : Nat) (on' : List Bool) (todo : List Nat) (ta : Option Addr) (tc : Nat) : Prop where
  ext : Ext w wr
  bO : w.heap.size ≤ On
  rO : Row wr On 4 (bsV on')
  len : on'.length = n
  oT : wr.ownsRow w.heap.size 3 1 (.slice ta todo.length tc) todo.length (ns todo)
  aT : obk ta ≠ some On
theorem RgS.setO {w wr : World} {On n : Nat} {on' : List Bool} {todo : List Nat} {ta : Option Addr} {tc : Nat} (h : RgS w wr On n on' todo ta tc) (q : Nat) (b : Bool) : RgS w (wr.setCell ⟨On, q, none⟩ (.bool b)) On n (on'.set q b) todo ta tc := by
  refine ⟨h.ext.set (p := ⟨On, q, none⟩) h.bO _, h.bO, by rw [← bs_set]; exact h.rO.set q _, by rw [List.length_set]; exact h.len, k_own_heap h.oT (fun i hi => Below.heap_setCell _ _ _ _ ?_), h.aT⟩
  rw [obk_eq] at hi
  intro e
  exact h.aT (by rw [hi, e])
theorem RgS.push {w wr w3 : World} {On n : Nat} {on' : List Bool} {todo : List Nat} {ta : Option Addr} {tc : Nat} {ob : Obj} {g' cap' : Nat} (h : RgS w wr On n on' todo ta tc) (x : Nat)
    (g1 : (wr.alloc ob).grownBy w3 (Value.slice ta todo.length tc).ownBlock)
    (ho : w3.ownsRow w.heap.size 3 1 (.slice (some ⟨g', 0, none⟩) (todo.length + 1) cap') (todo.length + 1) (ns todo ++ [.int .i64 (x : Int)]))
    (hw : (Value.slice ta todo.length tc).ownBlock = some g' ∨ wr.heap.size + 1 ≤ g') : RgS w w3 On n on' (todo ++ [x]) (some ⟨g', 0, none⟩) cap' := by
  rw [obk_eq] at g1 hw
  have hl := k_lt h.rO
  have e3 : Ext w w3 := by
    refine Below.grown (h.ext.trans (Ext.alloc wr ob)) g1 (h.ext.trans (Ext.alloc wr ob)).size ?_
    intro j hj
    exact (h.oT.lt j (by rw [obk_eq]; exact hj)).1
  refine ⟨e3, h.bO, (h.rO.on (Ext.alloc wr ob)).grown g1 (Ne.symm h.aT), h.len, by simpa [ns] using ho, fun e => ?_⟩
  simp only [obk, Value.ownBlock, Option.some.injEq] at e
  subst e
  rcases hw with e | e
  · exact h.aT e
  · omega
theorem RgS.pop {w wr : World} {On n : Nat} {on' : List Bool} {todo : List Nat} {ta : Option Addr} {tc : Nat} (h : RgS w wr On n on' todo ta tc) (k : Nat) (hk : k + 1 = todo.length) : wr.ownsRow w.heap.size 3 1 (.slice ta k tc) k (ns todo.dropLast) := by
  have ho := k_own_prefix (m := k) h.oT (by omega)
  have e : (ns todo).take (k * 1) = ns todo.dropLast := by
    rw [Nat.mul_one, List.dropLast_eq_take, show todo.length - 1 = k by omega]
    simp [ns, List.map_take]
  rw [e] at ho
  exact ho

theorem own_lit (W w : World) (x : Int) (h : w.heap.size ≤ W.heap.size) : (W.alloc (.cells #[.int .i64 x] 3)).ownsRow w.heap.size 3 1 (.slice (some ⟨W.heap.size, 0, none⟩) 1 1) 1 [.int .i64 x] :=
  ⟨rfl, .inr ⟨W.heap.size, 1, #[.int .i64 x], rfl, h, Go.heap_alloc_new _ _, Nat.le_refl _, by unfold maxLen; omega, rfl, rfl⟩⟩

/-- What the document's from answers. -/
def RFromE (w : World) (F : List Bool) (e : Ending) (w' : World) : Prop := ∃ On, e = .returned (slV On F.length) ∧ w.heap.size ≤ On ∧ Row w' On 4 (bsV F) ∧ Ext w w'

structure RuI (w wr : World) (On : Nat) (ls : List (List Nat)) (bar : Int) (D k : Nat) (on' : List Bool) (todo : List Nat) (F : List Bool) (ta : Option Addr) (tc : Nat) : Prop where
  S : RgS w wr On ls.length on' todo ta tc
  eq : rRun ls bar k on' todo = some F
  ln : todo.length + k * D ≤ 100000000
structure RsI (w wr : World) (On : Nat) (ls : List (List Nat)) (bar : Int) (l : List Nat) (j : Nat) (on' : List Bool) (todo : List Nat) (R : List Bool × List Nat) (ta : Option Addr) (tc X : Nat) : Prop where
  S : RgS w wr On ls.length on' todo ta tc
  eq : rScan bar (l.drop j) on' todo = some R
  ln : todo.length ≤ X + j

set_option maxHeartbeats 8000000 in
theorem rfrom_w (ga : Option Addr) (gc : Nat) (ls : List (List Nat)) (at' bar : Int) (w : World) (K D : Nat) (F : List Bool) (hg : RepG w (In w) ga (gUpG ls)) (hn : ls.length ≤ 1000000) (hD : ∀ l ∈ ls, l.length ≤ D) (hKD : 1 + K * D ≤ 100000000) (hD1 : D ≤ 1000000) (hF : rFrom ls at' bar K = some F) :
    Calls Try.prog 39 #[.slice ga ls.length gc, .int .i64 at', .int .i64 bar] w (RFromE w F) := by
  have hmk := make_bools ls.length hn w
  have HG := hide hg
  have HD := hide hD
  obtain ⟨i0, hi, hz0, hz1, hz2⟩ := k_info
  have HI := hide hi
  have Z0 := hide hz0
  have Z1 := hide hz1
  have Z2 := hide hz2
  clear hi hz0 hz1 hz2 hg hD
  have R0 : Hd (Row (w.alloc (.cells (bsV (List.replicate ls.length false)).toArray 4)) w.heap.size 4 (bsV (List.replicate ls.length false))) := Row.new _ _ _
  generalize hob : (Obj.cells (bsV (List.replicate ls.length false)).toArray 4) = ob at hmk R0
  clear hob
  unfold rFrom at hF
  by_cases h1 : at' < 0
  · rw [if_pos (Or.inl h1)] at hF
    injection hF with hF
    have h1' : decide (at' < 0) = true := by simpa using h1
    go_enter Try.func39, Try.ntmps39
    go_wp2_with fail
    go_ret
    refine ⟨w.heap.size, ?_, Nat.le_refl _, by rw [← hF]; exact unhide R0, Ext.alloc _ _⟩
    rw [← hF, List.length_replicate]
    rfl
  · by_cases h2 : (ls.length : Int) ≤ at'
    · rw [if_pos (Or.inr (Or.inl h2))] at hF
      injection hF with hF
      go_enter Try.func39, Try.ntmps39
      go_wp2_with fail
      go_ret
      refine ⟨w.heap.size, ?_, Nat.le_refl _, by rw [← hF]; exact unhide R0, Ext.alloc _ _⟩
      rw [← hF, List.length_replicate]
      rfl
    · by_cases h3 : at' = bar
      · rw [if_pos (Or.inr (Or.inr h3))] at hF
        injection hF with hF
        have h3' : (at' == bar) = true := by simpa using h3
        go_enter Try.func39, Try.ntmps39
        go_wp2_with fail
        go_ret
        refine ⟨w.heap.size, ?_, Nat.le_refl _, by rw [← hF]; exact unhide R0, Ext.alloc _ _⟩
        rw [← hF, List.length_replicate]
        rfl
      · rw [if_neg (by omega)] at hF
        have h3' : (at' == bar) = false := by rw [beq_eq_false_iff_ne]; exact h3
        obtain ⟨p0, rfl⟩ := Int.eq_ofNat_of_zero_le (by omega : 0 ≤ at')
        rw [Int.toNat_natCast] at hF
        have hp0 : (p0 : Int) < (ls.length : Int) := by omega
        have c0 := (unhide R0).cell p0 (bs_at (l := List.replicate ls.length false) (x := false) (by rw [List.getElem?_replicate, if_pos (by omega)]))
        have f0 := k_rowF (unhide R0) p0
        have HS0 : Hd (RuI w (((w.alloc ob).setCell ⟨w.heap.size, p0, none⟩ (.bool true)).alloc (.cells #[.int .i64 (p0 : Int)] 3)) w.heap.size ls bar D K ((List.replicate ls.length false).set p0 true) [p0] F (some ⟨w.heap.size + 1, 0, none⟩) 1) := by
          have hz : ((w.alloc ob).setCell ⟨w.heap.size, p0, none⟩ (.bool true)).heap.size = w.heap.size + 1 := by simp [World.setCell]
          refine ⟨⟨((Ext.alloc w ob).set (p := ⟨w.heap.size, p0, none⟩) (Nat.le_refl _) _).trans (Ext.alloc _ _), Nat.le_refl _, ?_, by simp, ?_, fun e => ?_⟩, hF, by simpa using hKD⟩
          · rw [← bs_set]
            exact ((unhide R0).set p0 (.bool true)).on (Ext.alloc _ _)
          · have := own_lit ((w.alloc ob).setCell ⟨w.heap.size, p0, none⟩ (.bool true)) w (p0 : Int) (by omega)
            rw [hz] at this
            exact this
          · simp only [obk, Value.ownBlock, Option.some.injEq] at e
            omega
        clear R0 hF
        go_enter Try.func39, Try.ntmps39
        go_wp2_with fail
        go_loopg [8] K (fun gk t8 wr => ∃ (on' : List Bool) (todo : List Nat) (ta : Option Addr) (tc : Nat), t8 = .slice ta todo.length tc ∧ Hd (RuI w wr w.heap.size ls bar D gk on' todo F ta tc))
        case atStart => exact ⟨_, [p0], _, 1, rfl, HS0⟩
        case round =>
          clear HS0 c0 f0 hmk
          obtain ⟨on', todo, ta, tc, rfl, hI⟩ := hrel
          have hE := (unhide hI).eq
          cases gk with
          | zero => rw [rRun] at hE; cases hE
          | succ gk =>
          rw [rRun] at hE
          have hkd : (gk + 1) * D = gk * D + D := Nat.succ_mul gk D
          have hln := (unhide hI).ln
          cases hgl : todo.getLast? with
          | none =>
            rw [hgl] at hE
            simp only at hE
            injection hE with hE
            have h0 : todo = [] := by simpa using hgl
            subst h0
            simp only [List.length_nil] at *
            clear hgl
            go_wp2_with fail
            go_ret
            have hS := (unhide hI).S
            refine ⟨w.heap.size, ?_, Nat.le_refl _, by rw [← hE]; exact hS.rO, hS.ext⟩
            rw [← hE, hS.len]
            rfl
          | some p =>
            rw [hgl] at hE
            simp only at hE
            obtain ⟨m, hm⟩ : ∃ m, todo.length = m + 1 := by
              cases hq : todo with
              | nil => rw [hq] at hgl; simp at hgl
              | cons a b => exact ⟨b.length, by simp⟩
            have hga : todo[m]? = some p := by
              rw [List.getLast?_eq_getElem?, hm, Nat.add_sub_cancel] at hgl
              exact hgl
            cases hl : ls[p]? with
            | none => rw [hl] at hE; cases hE
            | some l =>
            rw [hl] at hE
            simp only at hE
            cases hsc : rScan bar l on' todo.dropLast with
            | none => rw [hsc] at hE; cases hE
            | some R =>
            obtain ⟨on2, todo2⟩ := R
            rw [hsc] at hE
            simp only at hE
            obtain ⟨tg, rfl, htc, ct⟩ := own_at (unhide hI).S.oT hga
            have hpop := (unhide hI).S.pop m hm.symm
            have hdl : todo.dropLast.length = m := by rw [List.length_dropLast]; omega
            have HI0 : Hd (RsI w wr w.heap.size ls bar l 0 on' todo.dropLast (on2, todo2) (some ⟨tg, 0, none⟩) tc m) := ⟨⟨(unhide hI).S.ext, (unhide hI).S.bO, (unhide hI).S.rO, (unhide hI).S.len, by rw [hdl]; exact hpop, (unhide hI).S.aT⟩, by rw [List.drop_zero]; exact hsc, by omega⟩
            have hlD := unhide HD l (List.mem_of_getElem? hl)
            obtain ⟨gb, go, ia, ic, rfl, _, cl, rl⟩ := (unhide HG).at (j := p) (l := l.map (fun (x : Nat) => (x : Int))) (by unfold gUpG; rw [List.getElem?_map, hl]; rfl)
            rw [List.length_map] at cl
            have hpn : (p : Int) < (ls.length : Int) := by have := (List.getElem?_eq_some_iff.1 hl).1; omega
            have HRl := hide rl
            have HE := hide hE
            have hmb : m ≤ 100000000 := by omega
            rw [hm] at hln htc ⊢
            have hmz : ((m + 1 : Nat) : Int) - 1 = (m : Int) := by omega
            clear hE hsc hgl hl hI rl hga hpop
            go_wp2_with fail
            go_loopw [8, 10] (fun t8 t10 wr => ∃ (j : Nat) (on' : List Bool) (todo : List Nat) (ta : Option Addr) (tc : Nat), t8 = .slice ta todo.length tc ∧ t10 = .int .i64 (j : Int) ∧ j ≤ l.length ∧ Hd (RsI w wr w.heap.size ls bar l j on' todo (on2, todo2) ta tc m)) (fun _ t _ => l.length - (intOf t).toNat)
            case atStart => exact ⟨0, on', todo.dropLast, _, tc, by rw [hdl], rfl, by omega, HI0⟩
            case round =>
              clear HI0 ct hdl hm
              obtain ⟨j, on', todo, ta, tc, rfl, rfl, hj, hI⟩ := hrel
              have hX := (unhide hI).S.ext
              have cl' := hX.cell cl
              have hlq := (unhide hI).ln
              by_cases hlj : j < l.length
              · obtain ⟨q, hq⟩ : ∃ q, l[j]? = some q := ⟨_, List.getElem?_eq_getElem hlj⟩
                obtain ⟨qb, qo, rfl, _, cq⟩ := (unhide HRl).at (j := j) (x := (q : Int)) (by rw [List.getElem?_map, hq]; rfl)
                have cq := hX.cell cq
                have heq := (unhide hI).eq
                have hdr : l.drop j = q :: l.drop (j + 1) := by
                  rw [List.getElem?_eq_getElem hlj] at hq
                  injection hq with hq
                  rw [List.drop_eq_getElem_cons hlj, hq]
                rw [hdr, rScan] at heq
                clear hdr hq
                by_cases hqb : (q : Int) = bar
                · rw [if_pos hqb] at heq
                  subst hqb
                  have hqb' : ((q : Int) == (q : Int)) = true := by simp
                  have HI' : Hd (RsI w wr w.heap.size ls (q : Int) l (j + 1) on' todo (on2, todo2) ta tc m) := ⟨(unhide hI).S, heq, by omega⟩
                  clear heq
                  go_wp2_with fail
                  go_roundw
                  case rel => exact ⟨j + 1, on', todo, ta, tc, rfl, by go_num, by omega, HI'⟩
                  case measure => simp [intOf]; omega
                · rw [if_neg hqb] at heq
                  have hqb' : ((q : Int) == bar) = false := by rw [beq_eq_false_iff_ne]; exact hqb
                  cases hon : on'[q]? with
                  | none => rw [hon] at heq; cases heq
                  | some b =>
                  rw [hon] at heq
                  have hqn : (q : Int) < (ls.length : Int) := by have := (List.getElem?_eq_some_iff.1 hon).1; rw [(unhide hI).S.len] at this; omega
                  have cb := (unhide hI).S.rO.cell q (bs_at hon)
                  have fb := k_rowF (unhide hI).S.rO q
                  clear hon
                  cases b with
                  | true =>
                    simp only at heq
                    have HI' : Hd (RsI w wr w.heap.size ls bar l (j + 1) on' todo (on2, todo2) ta tc m) := ⟨(unhide hI).S, heq, by omega⟩
                    clear heq
                    go_wp2_with fail
                    go_roundw
                    case rel => exact ⟨j + 1, on', todo, ta, tc, rfl, by go_num, by omega, HI'⟩
                    case measure => simp [intOf]; omega
                  | false =>
                    simp only at heq
                    have HS1 := hide ((unhide hI).S.setO q true)
                    have HO : Hd (∀ ob, ((wr.setCell ⟨w.heap.size, q, none⟩ (.bool true)).alloc ob).ownsRow w.heap.size 3 1 (.slice ta todo.length tc) todo.length (ns todo)) := fun ob => k_own_heap (unhide HS1).oT (fun i hi => (Ext.alloc _ ob).block i ((unhide HS1).oT.lt i hi).2)
                    have HLe := hide (unhide HS1).ext.size
                    have HZ : Hd ((wr.setCell ⟨w.heap.size, q, none⟩ (.bool true)).heap.size = wr.heap.size) := by simp [Hd, World.setCell]
                    have HPush := hide (fun (w3 : World) (ob : Obj) (g' cap' : Nat) => (unhide HS1).push (w3 := w3) (ob := ob) (g' := g') (cap' := cap') q)
                    have HEq := hide heq
                    clear heq hI
                    go_wp2_with (at_builtin; refine kapp_list rfl (.tmp 77) (.tmp 79) 22 rfl w.heap.size 3 i0 (.int .i64 0) 1 8 Try.underlying22 (unhide HI) (unhide Z0) (unhide Z1) (unhide Z2) rfl (by decide) ta todo.length tc _ rfl (unhide HO _) ⟨wr.heap.size, 0, none⟩ 1 1 [.int .i64 (q : Int)] rfl (by decide) rfl (k_new _ _ (unhide HZ).symm _ _) (k_one_int _) ?c1 ?c2 ?c3 ?_)
                    case c1 => unfold maxLen; omega
                    case c2 => omega
                    case c3 => first | exact Nat.le_trans (unhide HLe) (Ext.alloc _ _).size | (have := unhide HLe; have := unhide HZ; omega)
                    intro g' cap' w3 ho hgr hw
                    have S3 := hide (unhide HPush w3 _ g' cap' hgr ho (hw.imp id (fun e => by have := unhide HZ; omega)))
                    clear ho hgr hw
                    go_wp2_with fail
                    go_roundw
                    case rel => exact ⟨j + 1, _, _, _, _, by first | rfl | simp, by go_num, by omega, ⟨unhide S3, unhide HEq, by simp; omega⟩⟩
                    case measure => simp [intOf]; omega
              · obtain rfl : j = l.length := by omega
                have HQ : Hd (on' = on2 ∧ todo = todo2) := by
                  have := (unhide hI).eq
                  rw [List.drop_length, rScan] at this
                  simpa [Hd] using this
                obtain ⟨q1, q2⟩ := unhide HQ
                subst q1 q2
                go_wp2_with fail
                go_roundg gk
                case rel => exact ⟨on', todo, ta, tc, rfl, ⟨(unhide hI).S, unhide HE, by omega⟩⟩
                case measure => omega

end Go.Proofs.Ytpfjafjpijmckaa
