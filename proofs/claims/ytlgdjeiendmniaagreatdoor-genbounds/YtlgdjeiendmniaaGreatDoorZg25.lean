/- Statements, blocks and what stands behind an if, tied together. · The names of a function's parameters. · A function. · Functions. -/
import Derived.Test.YtlgdjeiendmniaaGreatDoorZg23
import Derived.Test.YtlgdjeiendmniaaGreatDoorZg24
set_option linter.unusedSimpArgs false
set_option linter.unusedVariables false
set_option maxRecDepth 10000

namespace Go.Proofs.YtlgdjeiendmniaaGreatDoor
open Go.RowKit

theorem sts_one (len fe f : Nat) : (stsP len fe (f + 1)).1 = stmP len (exP len fe) (stsP len fe f).2.1 (stsP len fe f).2.2 := by rw [stsP]
theorem sts_two (len fe f : Nat) : (stsP len fe (f + 1)).2.1 = blkP len (stsP len fe f).1 (f + 1) := by rw [stsP]
theorem sts_three (len fe f : Nat) : (stsP len fe (f + 1)).2.2 = choP (exP len fe) (blkP len (stsP len fe f).1 (f + 1)) (othP (stsP len fe f).2.2 (stsP len fe f).2.1) := by rw [stsP]

theorem sts_lt (len fe f : Nat) (hf : 0 < f) (s : PS) (hne : s.ts ≠ []) : ((stsP len fe f).1 s).2.ts.length < s.ts.length := by
  obtain ⟨f, rfl⟩ : ∃ i, f = i + 1 := ⟨f - 1, by omega⟩
  obtain ⟨h1, h2, h3⟩ := sts_le len fe f
  rw [sts_one]
  exact stm_lt (ex_le len fe) h2 h3 hne

theorem sts_all (g len fe B : Nat) (hB : B = 100000) (hfe : fe ≤ B) (f : Nat) : f ≤ fe → RdIs g len 117 (stsP len fe f).1 f ∧ RdIs g len 79 (stsP len fe f).2.1 f ∧ RdIs g len 146 (stsP len fe f).2.2 f := by
  have hx : RdIs g len 147 (exP len fe) fe := exIs g len fe (by omega)
  induction f with
  | zero => exact fun _ => ⟨fun st W hl _ => absurd hl (Nat.not_lt_zero _), fun st W hl _ => absurd hl (Nat.not_lt_zero _), fun st W hl _ => absurd hl (Nat.not_lt_zero _)⟩
  | succ f ih =>
    intro hf
    obtain ⟨h1, h2, h3⟩ := ih (by omega)
    obtain ⟨s1, s2, s3⟩ := sts_le len fe f
    have hb : RdIs g len 79 (blkP len (stsP len fe f).1 (f + 1)) (f + 1) := fun st W hl hR =>
      blk_any len g (stsP len fe f).1 (f + 1) st W hR hl (by omega) (fun hne s hs => sts_lt len fe f (by have := List.length_pos_iff.2 hne; omega) s hs) (fun s hs => h1.ex s W (by omega))
    have hb2 := blk_le (len := len) s1 (f + 1)
    have hs : RdIs g len 117 (stmP len (exP len fe) (stsP len fe f).2.1 (stsP len fe f).2.2) (f + 1) := fun st W hl hR =>
      stm_any len g (exP len fe) (stsP len fe f).2.1 (stsP len fe f).2.2 st W hR (ex_le len fe) (fun s hs => hx.ex s W (by omega)) (fun s hs => h2.ex s W (by omega)) (fun s hs => h3.ex s W (by omega))
    have hc : RdIs g len 146 (choP (exP len fe) (blkP len (stsP len fe f).1 (f + 1)) (othP (stsP len fe f).2.2 (stsP len fe f).2.1)) (f + 1) := fun st W hl hR => by
      have e1 := ex_le len fe st
      have e2 := hb2 (exP len fe st).2
      refine cho_any len g (exP len fe) (blkP len (stsP len fe f).1 (f + 1)) (othP (stsP len fe f).2.2 (stsP len fe f).2.1) st W hR (hx.ex st W (by omega)) (hb.ex _ W (by omega)) (fun hw W2 _ hR2 => ?_)
      have e3 := next_lt_of (isW_ne hw)
      generalize (blkP len (stsP len fe f).1 (f + 1) (exP len fe st).2).2 = s2 at *
      have e4 := next_le s2.next
      exact oth_any len g (stsP len fe f).2.2 (stsP len fe f).2.1 s2.next W2 hR2 (fun _ => h3.ex _ W2 (by omega)) (fun _ => h2.ex _ W2 (by omega))
    rw [sts_one, sts_two, sts_three]
    exact ⟨hs, hb, hc⟩

/-- A block is read as stsP says. -/
theorem blkIs (g len f : Nat) (hf : f ≤ 100000) : RdIs g len 79 (stsP len f f).2.1 f := (sts_all g len f 100000 rfl hf f (Nat.le_refl _)).2.1
theorem blkIs_le (len f : Nat) : Shorter (stsP len f f).2.1 := (sts_le len f f).2.1

end Go.Proofs.YtlgdjeiendmniaaGreatDoor

namespace Go.Proofs.YtlgdjeiendmniaaGreatDoor
open Go.RowKit

/-- A row of texts. -/
def RepS (w : World) (F : Nat → Prop) (ps : List ByteArray) (a : Option Addr) : Prop :=
  ps = [] ∨ ∃ b off, a = some ⟨b, off, none⟩ ∧ F b ∧ ∀ j u, (ps.map Value.string)[j]? = some u → w.cell? ⟨b, off + j, none⟩ = some u

theorem RepS.to {w w' : World} {F F' : Nat → Prop} (h : ∀ b, F b → F' b ∧ w'.heap[b]? = w.heap[b]?) {ps : List ByteArray} {a : Option Addr} (hr : RepS w F ps a) : RepS w' F' ps a := by
  rcases hr with hr | ⟨b, off, rfl, hb, hc⟩
  · exact Or.inl hr
  · exact Or.inr ⟨b, off, rfl, (h b hb).1, fun j u hu => by rw [World.cell?_of_block (w := w) (h b hb).2]; exact hc j u hu⟩

/-- What a call that reads names answers. -/
def Names (g len : Nat) (w : World) (r : List ByteArray × PS) (e : Ending) (w' : World) : Prop :=
  ∃ a cap, e = .returned (.slice a r.1.length cap) ∧ r.1.length ≤ cap ∧ RepS w' (Fr w.heap.size w'.heap.size) r.1 a ∧ St w' g len r.2 ∧ Gr g w w'

theorem infoS : (Tryz.prog.info? 9).map (fun i => (i.zero, i.size, i.bytes)) = some (some (.string emptyB), 1, 16) := by kernel_rfl

/-- What holds at the head of the loop. -/
structure ParI (g len : Nat) (w wr : World) (F : List ByteArray × PS) (stc : PS) (k : Nat) (acc : List ByteArray) (ao : Option Addr) (cap : Nat) : Prop where
  eq : F = parLoop len k acc stc
  fuel : stc.ts.length < k
  bnd : acc.length + stc.ts.length ≤ 100001
  st : St wr g len stc
  gr : Gr g w wr
  own : wr.ownsRow w.heap.size 9 1 (.slice ao acc.length cap) acc.length (acc.map Value.string)

theorem own_S {wr : World} {base : Nat} {acc : List ByteArray} {ao : Option Addr} {cap : Nat} (ho : wr.ownsRow base 9 1 (.slice ao acc.length cap) acc.length (acc.map Value.string)) : acc.length ≤ cap ∧ RepS wr (Fr base wr.heap.size) acc ao := by
  obtain ⟨hlen, ⟨e, h0⟩ | ⟨b, cap2, cur, e, hb, hrow, hc, _⟩⟩ := id ho
  · have : acc = [] := List.length_eq_zero_iff.1 h0
    subst this
    exact ⟨Nat.zero_le _, Or.inl rfl⟩
  · injection e with e1 e2 e3
    subst e1 e3
    exact ⟨hc, Or.inr ⟨b, 0, rfl, ⟨hb, (Array.getElem?_eq_some_iff.1 hrow).1⟩, cells_own ho⟩⟩

theorem one_str (s : ByteArray) : ∀ u ∈ ([.string s] : List Value), u.oneCell' = true := by
  intro u hu
  simp at hu
  subst hu
  rfl

theorem ParI.snoc {g len : Nat} {w wr w2 w3 : World} {F : List ByteArray × PS} {st2 : PS} {k : Nat} {acc : List ByteArray} {ao : Option Addr} {cap g' cap' : Nat} {nm : ByteArray} (ob : Obj)
    (hg : g < w.heap.size) (hgr : Gr g w wr) (hW : Gr g wr w2) (hS : St w2 g len st2) (hq : F = parLoop len k (acc ++ [nm]) st2) (hf : st2.ts.length < k) (hb : acc.length + st2.ts.length ≤ 100000)
    (hx : (w2.alloc ob).ownsRow w.heap.size 9 1 (.slice ao acc.length cap) acc.length (acc.map Value.string))
    (ho : w3.ownsRow w.heap.size 9 1 (.slice (some ⟨g', 0, none⟩) (acc.length + 1) cap') (acc.length + 1) (acc.map Value.string ++ [.string nm]))
    (hgw : (w2.alloc ob).grownBy w3 (Value.slice ao acc.length cap).ownBlock) : ParI g len w w3 F st2 k (acc ++ [nm]) (some ⟨g', 0, none⟩) cap' := by
  have hln : (acc ++ [nm]).length = acc.length + 1 := by simp
  exact ⟨hq, hf, by rw [hln]; omega, (hS.alloc ob).append hg hx hgw, Gr.append ((hgr.trans hW).alloc ob) hx (Nat.le_refl _) hgw, by rw [hln, List.map_append]; exact ho⟩

set_option maxHeartbeats 1000000 in
theorem par_any (len g f : Nat) (st : PS) (w : World) (hS : St w g len st) (hf : st.ts.length < f) (hf2 : f ≤ 100000) :
    Calls Tryz.prog 78 #[.pointer (some ⟨g, 0, none⟩)] w (Names g len w (parP len f st)) := by
  have hg : g < w.heap.size := hS.lt
  have HT := hide (takeSign_any len g st ⟨#[41]⟩ w hS)
  unfold parP
  cases hb : st.isS ⟨#[41]⟩
  · rw [if_neg (by decide)]
    have e1 : st.takeS ⟨#[41]⟩ = (false, st) := by unfold PS.takeS; rw [hb]; rfl
    rw [e1] at HT
    have HN := hide (fun W (x : St W g len st) => name_p len g st W x)
    have hl0 := name_le st len
    obtain ⟨F, hF⟩ : ∃ F, F = parLoop len f [(st.name len).1] (st.name len).2 := ⟨_, rfl⟩
    rw [← hF]
    have HF := hide hF
    clear hF e1 hb hS
    generalize (st.name len) = q at *
    obtain ⟨nm, st2⟩ := q
    obtain ⟨i0, hi, hz0, hz1, hz2⟩ := info_parts infoS
    have HI := hide hi
    have Z0 := hide hz0
    have Z1 := hide hz1
    have Z2 := hide hz2
    clear hi hz0 hz1 hz2
    go_enter Tryz.func78, Tryz.ntmps78
    go_wp2_with (first
      | (go_at_call 113; refine Calls.mono (unhide HT) ?_; rintro e w1 ⟨rfl, hs, hw⟩; have S1 := hide hs; have X1 := hide hw; clear hw hs)
      | (go_at_call 76; refine Calls.mono (unhide HN _ (unhide S1)) ?_; rintro e w2 ⟨rfl, hs, hw⟩; have S2 := hide hs; have X2 := hide hw; have X12 := hide ((unhide X1).trans hw); clear hw hs)
      | (at_builtin; refine wpList_append_where rfl (.tmp 5) (.tmp 8) 57 rfl w.heap.size 9 i0 (.string emptyB) 1 16 Tryz.underlying57 (unhide HI) (unhide Z0) (unhide Z1) (unhide Z2) rfl (by decide) none 0 0 [] rfl (World.ownsRow_nil _ _ _ _) ⟨w2.heap.size, 0, none⟩ 1 1 [.string nm] rfl (by decide) rfl (cells_new w2 _ _) (one_str _) ?c1 ?c2 ?c3 ?_))
    case c1 => unfold maxLen; omega
    case c2 => omega
    case c3 => have := (unhide X12).size; simp; omega
    intro g' cap2 w3 ho3 hg3 hw3
    have hl0 : st2.ts.length ≤ st.ts.length := hl0
    have MI : Hd (ParI g len w w3 F st2 f [nm] (some ⟨g', 0, none⟩) cap2) := ParI.snoc (acc := []) _ hg (unhide X1) (unhide X2) (unhide S2) (unhide HF) (by omega) (by simp; omega) (World.ownsRow_nil _ _ _ _) ho3 hg3
    clear ho3 hg3 hw3 S1 X1 S2 X2 X12 HF HN
    go_wp2_with fail
    go_loopw [2] (fun t wr => ∃ (acc : List ByteArray) (ao : Option Addr) (cap : Nat) (stc : PS) (j : Nat), t = .slice ao acc.length cap ∧ Hd (ParI g len w wr F stc j acc ao cap)) (fun _ wr => leftN g wr)
    case atStart => exact ⟨_, _, _, st2, f, rfl, MI⟩
    case round =>
      clear MI
      obtain ⟨acc, ao, cap, stc, j, rfl, hM⟩ := hrel
      have HTC := hide (takeSign_any len g stc ⟨#[44]⟩ wr (unhide hM).st)
      have hfu := (unhide hM).fuel
      obtain ⟨j, rfl⟩ : ∃ i, j = i + 1 := ⟨j - 1, by omega⟩
      cases hb : stc.isS ⟨#[44]⟩
      · have e1 : stc.takeS ⟨#[44]⟩ = (false, stc) := by unfold PS.takeS; rw [hb]; rfl
        rw [e1] at HTC
        have hF2 : F = (acc, stc) := by rw [(unhide hM).eq, parLoop, hb]; rfl
        subst hF2
        have HG := hide (fun W (x : St W g len stc) => psign_any len g stc ⟨#[41]⟩ W x)
        clear e1 hb
        go_wp2_with (first
          | (go_at_call 113; refine Calls.mono (unhide HTC) ?_; rintro e w4 ⟨rfl, hs, hw⟩; have S4 := hide hs; have X4 := hide hw; clear hw hs)
          | (go_at_call 77; refine Calls.mono (unhide HG _ (unhide S4)) ?_; rintro e w5 ⟨rfl, hs, hw⟩; have S5 := hide hs; have X5 := hide ((unhide X4).trans hw); clear hw hs))
        go_ret
        obtain ⟨d1, d2⟩ := own_S (own_gr (unhide hM).own (unhide X5) hg)
        exact ⟨ao, cap, rfl, d1, d2, unhide S5, (unhide hM).gr.trans (unhide X5)⟩
      · have e1 : stc.takeS ⟨#[44]⟩ = (true, stc.next) := by unfold PS.takeS; rw [hb]; rfl
        rw [e1] at HTC
        have hlt := next_lt hb
        have hl1 := name_le stc.next len
        have hF2 : F = parLoop len j (acc ++ [(stc.next.name len).1]) (stc.next.name len).2 := by rw [(unhide hM).eq, parLoop, hb]; rfl
        have HF2 := hide hF2
        have HN := hide (fun W (x : St W g len stc.next) => name_p len g stc.next W x)
        have hm0 : leftN g wr = stc.ts.length := left_st (unhide hM).st
        have hbd := (unhide hM).bnd
        clear e1 hb hF2
        generalize stc.next.name len = q at *
        obtain ⟨nm1, st4⟩ := q
        have hl1 : st4.ts.length ≤ stc.next.ts.length := hl1
        have HXS := hide (fun w2 (x : Gr g wr w2) => own_gr (unhide hM).own x hg)
        generalize hA : acc.length = A at *
        go_wp2_with (first
          | (go_at_call 113; refine Calls.mono (unhide HTC) ?_; rintro e w4 ⟨rfl, hs, hw⟩; have S4 := hide hs; have X4 := hide hw; clear hw hs)
          | (go_at_call 76; refine Calls.mono (unhide HN _ (unhide S4)) ?_; rintro e w5 ⟨rfl, hs, hw⟩; have S5 := hide hs; have X5 := hide hw; have X45 := hide ((unhide X4).trans hw); clear hw hs)
          | (at_builtin; refine wpList_append_where rfl (.tmp 12) (.tmp 15) 57 rfl w.heap.size 9 i0 (.string emptyB) 1 16 Tryz.underlying57 (unhide HI) (unhide Z0) (unhide Z1) (unhide Z2) rfl (by decide) ao A cap (acc.map Value.string) rfl (unhide HXS _ ((unhide X45).alloc _)) ⟨w5.heap.size, 0, none⟩ 1 1 [.string nm1] rfl (by decide) rfl (cells_new w5 _ _) (one_str _) ?c1 ?c2 ?c3 ?_))
        case c1 => unfold maxLen; omega
        case c2 => omega
        case c3 => have := (unhide hM).gr.size; have := (unhide X45).size; simp; omega
        intro g2 cap6 w6 ho6 hg6 hw6
        subst hA
        have MN : Hd (ParI g len w w6 F st4 j (acc ++ [nm1]) (some ⟨g2, 0, none⟩) cap6) := ParI.snoc _ hg (unhide hM).gr (unhide X45) (unhide S5) (unhide HF2) (by omega) (by omega) (unhide HXS _ ((unhide X45).alloc _)) ho6 hg6
        have hm1 : leftN g w6 = st4.ts.length := left_st (unhide MN).st
        have hln : (acc ++ [nm1]).length = acc.length + 1 := by simp
        clear ho6 hg6 hw6
        go_wp2_with fail
        go_roundw
        case rel => exact ⟨_, _, _, st4, j, by rw [hln], MN⟩
        case measure => rw [hm0, hm1]; omega
  · rw [if_pos rfl]
    have e1 : st.takeS ⟨#[41]⟩ = (true, st.next) := by unfold PS.takeS; rw [hb]; rfl
    rw [e1] at HT
    clear e1 hb hS
    go_enter Tryz.func78, Tryz.ntmps78
    go_wp2_with (go_at_call 113; refine Calls.mono (unhide HT) ?_; rintro e w1 ⟨rfl, hs, hw⟩; have S1 := hide hs; have X1 := hide hw; clear hw hs)
    go_ret
    exact ⟨none, 0, rfl, Nat.le_refl _, Or.inl rfl, unhide S1, unhide X1⟩

end Go.Proofs.YtlgdjeiendmniaaGreatDoor

namespace Go.Proofs.YtlgdjeiendmniaaGreatDoor
open Go.RowKit

abbrev funV (nm : ByteArray) (pa : Option Addr) (pn pc : Nat) (k o : Int) (s : ByteArray) (n : Int) (a : Option Addr) (ln cap : Nat) : Value := .agg #[.string nm, .slice pa pn pc, .int .i64 k, .int .i64 o, .string s, .int .i64 n, .slice a ln cap]
abbrev funO (nm : ByteArray) (pa : Option Addr) (pn pc : Nat) (k o : Int) (s : ByteArray) (n : Int) (a : Option Addr) (ln cap : Nat) : Obj := .cells #[.string nm, .slice pa pn pc, .int .i64 k, .int .i64 o, .string s, .int .i64 n, .slice a ln cap] 62 (0, 0)
abbrev set7 (w : World) (b : Nat) (nm : ByteArray) (pa : Option Addr) (pn pc : Nat) (k o : Int) (s : ByteArray) (n : Int) (a : Option Addr) (ln cap : Nat) : World := (((((((w).setCell ⟨b, 0, none⟩ (.string nm)).setCell ⟨b, 1, none⟩ (.slice pa pn pc)).setCell ⟨b, 2, none⟩ (.int .i64 k)).setCell ⟨b, 3, none⟩ (.int .i64 o)).setCell ⟨b, 4, none⟩ (.string s)).setCell ⟨b, 5, none⟩ (.int .i64 n)).setCell ⟨b, 6, none⟩ (.slice a ln cap)
theorem St.set7 {w : World} {g len : Nat} {st : PS} (h : St w g len st) {b : Nat} (hb : g < b) (nm : ByteArray) (pa : Option Addr) (pn pc : Nat) (k o : Int) (s : ByteArray) (n : Int) (a : Option Addr) (ln cap : Nat) : St (set7 w b nm pa pn pc k o s n a ln cap) g len st :=
  ((((((h.set hb _ _).set hb _ _).set hb _ _).set hb _ _).set hb _ _).set hb _ _).set hb _ _
theorem Gr.set7 {g : Nat} {a0 w : World} (h : Gr g a0 w) {b : Nat} (hb : a0.heap.size ≤ b) (nm : ByteArray) (pa : Option Addr) (pn pc : Nat) (k o : Int) (s : ByteArray) (n : Int) (a : Option Addr) (ln cap : Nat) : Gr g a0 (set7 w b nm pa pn pc k o s n a ln cap) :=
  ((((((h.set (Or.inl hb) _).set (Or.inl hb) _).set (Or.inl hb) _).set (Or.inl hb) _).set (Or.inl hb) _).set (Or.inl hb) _).set (Or.inl hb) _
theorem set7_row {w : World} {b : Nat} {c0 c1 c2 c3 c4 c5 c6 : Value} (h : w.heap[b]? = some (.cells #[c0, c1, c2, c3, c4, c5, c6] 62 (0, 0))) (nm : ByteArray) (pa : Option Addr) (pn pc : Nat) (k o : Int) (s : ByteArray) (n : Int) (a : Option Addr) (ln cap : Nat) : (set7 w b nm pa pn pc k o s n a ln cap).heap[b]? = some (funO nm pa pn pc k o s n a ln cap) := by
  have h7 := row_set (row_set (row_set (row_set (row_set (row_set (row_set h 0 (.string nm)) 1 (.slice pa pn pc)) 2 (.int .i64 k)) 3 (.int .i64 o)) 4 (.string s)) 5 (.int .i64 n)) 6 (.slice a ln cap)
  simpa only [List.setIfInBounds_toArray, List.set_cons_zero, List.set_cons_succ] using h7
theorem set7_block {w : World} {b x : Nat} (hx : x ≠ b) (nm : ByteArray) (pa : Option Addr) (pn pc : Nat) (k o : Int) (s : ByteArray) (n : Int) (a : Option Addr) (ln cap : Nat) : (set7 w b nm pa pn pc k o s n a ln cap).heap[x]? = w.heap[x]? := by
  rw [Below.heap_setCell _ _ _ _ hx, Below.heap_setCell _ _ _ _ hx, Below.heap_setCell _ _ _ _ hx, Below.heap_setCell _ _ _ _ hx, Below.heap_setCell _ _ _ _ hx, Below.heap_setCell _ _ _ _ hx, Below.heap_setCell _ _ _ _ hx]
theorem set7_size (w : World) (b : Nat) (nm : ByteArray) (pa : Option Addr) (pn pc : Nat) (k o : Int) (s : ByteArray) (n : Int) (a : Option Addr) (ln cap : Nat) : (set7 w b nm pa pn pc k o s n a ln cap).heap.size = w.heap.size := by
  simp [World.setCell]
theorem res_fun {fn : Func} {p : Tmp} (h : fn.results = #[.cell p 62]) (tmps : Array Value) (w : World) (b : Nat) (nm : ByteArray) (pa : Option Addr) (pn pc : Nat) (k o : Int) (s : ByteArray) (n : Int) (a : Option Addr) (ln cap : Nat) (hp : tmps.getD p undef = .pointer (some ⟨b, 0, none⟩)) (hg : w.heap[b]? = some (funO nm pa pn pc k o s n a ln cap)) :
    (results fn tmps).run Tryz.prog w = .ok (funV nm pa pn pc k o s n a ln cap) w :=
  results_cell_row h tmps w b _ _ _ _ hp hg Tryz.underlying62 rfl (by kernel_rfl)

/-- A function as a value. -/
def RepFn (w : World) (F : Nat → Prop) (p : PFn) (v : Value) : Prop :=
  ∃ pa pc a cap, v = funV p.nm pa p.ps.length pc p.bd.k p.bd.o p.bd.s p.bd.n a p.bd.l.length cap ∧ p.ps.length ≤ pc ∧ RepS w F p.ps pa ∧ p.bd.l.length ≤ cap ∧ RepNL w F p.bd.l a

/-- What a call that reads a function answers. -/
def FunIs (g len : Nat) (w : World) (r : PFn × PS) (e : Ending) (w' : World) : Prop :=
  ∃ v, e = .returned v ∧ RepFn w' (Fr w.heap.size w'.heap.size) r.1 v ∧ St w' g len r.2 ∧ Gr g w w'

set_option maxHeartbeats 1000000 in
theorem fun_any (len g : Nat) (bl : Rdr) (f : Nat) (st : PS) (w : World) (hR : Rs w g len st) (hf : st.ts.length < f) (hf2 : f ≤ 100000) (hbl : ExIs g len 79 bl (funB len f st).2 w) :
    Calls Tryz.prog 49 #[.pointer (some ⟨g, 0, none⟩)] w (FunIs g len w (funP len bl f st)) := by
  have hg : g < w.heap.size := hR.st.lt
  unfold funP
  have HW := hide (fun W (x : St W g len st) => pword_any len g st ⟨#[102, 110]⟩ W x)
  have HN := hide (fun W (x : St W g len (st.word len ⟨#[102, 110]⟩)) => name_p len g _ W x)
  have HG := hide (fun W (x : St W g len (funA len st).2) => psign_any len g (funA len st).2 ⟨#[40]⟩ W x)
  have e1 := word_le st len ⟨#[102, 110]⟩
  have e2 := name_le (st.word len ⟨#[102, 110]⟩) len
  have e3 := psign_le (funA len st).2 len ⟨#[40]⟩
  have e2b : (funA len st).2.ts.length ≤ st.ts.length := Nat.le_trans e2 e1
  have HP := hide (fun W (x : St W g len ((funA len st).2.sign len ⟨#[40]⟩)) => par_any len g f _ W x (by omega) hf2)
  have HB := hide hbl
  unfold ExIs at HB
  have HR := hide hR
  clear hR hbl e1 e2 e2b e3 hf
  replace HP : Hd (∀ W, St W g len ((funA len st).2.sign len ⟨#[40]⟩) → Calls Tryz.prog 78 #[.pointer (some ⟨g, 0, none⟩)] W (Names g len W (funB len f st))) := HP
  replace HN : Hd (∀ W, St W g len (st.word len ⟨#[102, 110]⟩) → Calls Tryz.prog 76 #[.pointer (some ⟨g, 0, none⟩)] W fun e w' => e = .returned (.string (funA len st).1) ∧ St w' g len (funA len st).2 ∧ Gr g W w') := HN
  generalize funB len f st = q at *
  obtain ⟨ps, st4⟩ := q
  generalize funA len st = q at *
  obtain ⟨nm, st2⟩ := q
  simp only at HB ⊢
  generalize bl st4 = q at *
  obtain ⟨⟨k, o, s, n, l⟩, st5⟩ := q
  go_enter Tryz.func49, Tryz.ntmps49
  go_wp2_with (first
    | (go_at_call 75; refine Calls.mono (unhide HW _ ((unhide HR).st.alloc _)) ?_; rintro e w1 ⟨rfl, hs, hw⟩; have RA := hide (hw.row (Go.heap_alloc_new w _) (by omega)); have S1 := hide hs; have X1 := hide ((Gr.of (Ext.alloc _ _)).trans hw); clear hw hs)
    | (go_at_call 76; refine Calls.mono (unhide HN _ (unhide S1)) ?_; rintro e w2 ⟨rfl, hs, hw⟩; have RB := hide (hw.row (unhide RA) (by omega)); have S2 := hide hs; have X2 := hide ((unhide X1).trans hw); clear hw hs)
    | (go_at_call 77; refine Calls.mono (unhide HG _ (unhide S2)) ?_; rintro e w3 ⟨rfl, hs, hw⟩; have RC := hide (hw.row (unhide RB) (by omega)); have S3 := hide hs; have X3 := hide ((unhide X2).trans hw); have hlt3 : w.heap.size < w3.heap.size := (Array.getElem?_eq_some_iff.1 (unhide RC)).1; clear hw hs)
    | (go_at_call 78; refine Calls.mono (unhide HP _ (unhide S3)) ?_; rintro e w4 ⟨pa, pc, rfl, hpc, hps, hs, hw⟩; have RD := hide (hw.row (unhide RC) (by omega)); have PS4 := hide hps; have S4 := hide hs; have X4 := hide ((unhide X3).trans hw); have hlt4 : w3.heap.size ≤ w4.heap.size := hw.size; clear hw hs hps)
    | (go_at_call 79; refine Calls.mono (unhide HB _ (unhide X4) ((unhide HR).go (unhide X4) (unhide S4))) ?_; rintro e w5 ⟨v, rfl, hr, hs, hw⟩; rw [RepN] at hr; obtain ⟨a, cap, rfl, hcap, hl⟩ := hr; have RE := hide (hw.row (unhide RD) (by omega)); have r0 := rowC (unhide RE) 0 rfl; have r1 := rowC (unhide RE) 1 rfl; have r2 := rowC (unhide RE) 2 rfl; have r3 := rowC (unhide RE) 3 rfl; have r4 := rowC (unhide RE) 4 rfl; have r5 := rowC (unhide RE) 5 rfl; have r6 := rowC (unhide RE) 6 rfl; have rz := rowF (unhide RE); have S5 := hide hs; have L5 := hide hl; have G5 := hide hw; have X5 := hide ((unhide X4).trans hw); have hlt5 : w4.heap.size ≤ w5.heap.size := hw.size; clear hw hs hl))
  refine bodyPost_ret (res_fun rfl _ _ w.heap.size nm pa ps.length pc k o s n a l.length cap rfl (set7_row (unhide RE) _ _ _ _ _ _ _ _ _ _ _)) rfl ?_
  have hpc : ps.length ≤ pc := hpc
  have PS5 : RepS w4 (Fr w3.heap.size w4.heap.size) ps pa := unhide PS4
  have K5 : RepNL w5 (Fr w4.heap.size w5.heap.size) l a := unhide L5
  have hz := set7_size w5 w.heap.size nm pa ps.length pc k o s n a l.length cap
  have hk : ∀ b, b ≠ w.heap.size → _ := fun b hb => set7_block (w := w5) (b := w.heap.size) (x := b) hb nm pa ps.length pc k o s n a l.length cap
  refine ⟨_, rfl, ⟨pa, pc, a, cap, rfl, hpc, ?_, hcap, ?_⟩, (unhide S5).set7 hg _ _ _ _ _ _ _ _ _ _ _, (unhide X5).set7 (Nat.le_refl _) _ _ _ _ _ _ _ _ _ _ _⟩
  · exact RepS.to (fun b hb => ⟨⟨by have := hb.1; omega, by rw [hz]; have := hb.2; omega⟩, (hk b (by have := hb.1; omega)).trans ((unhide G5).block b hb.2 (by have := hb.1; omega))⟩) PS5
  · exact RepNL.to (fun b hb => ⟨⟨by have := hb.1; omega, by rw [hz]; exact hb.2⟩, hk b (by have := hb.1; omega)⟩) _ _ K5

end Go.Proofs.YtlgdjeiendmniaaGreatDoor

namespace Go.Proofs.YtlgdjeiendmniaaGreatDoor
open Go.RowKit

/-- The cells of a function, its slices as given. -/
abbrev fnC (p : PFn) (pa : Option Addr) (pc : Nat) (a : Option Addr) (cap : Nat) : List Value := [.string p.nm, .slice pa p.ps.length pc, .int .i64 p.bd.k, .int .i64 p.bd.o, .string p.bd.s, .int .i64 p.bd.n, .slice a p.bd.l.length cap]

/-- The cells xs hold the functions ps, one behind the other. -/
def RowF (w : World) (F : Nat → Prop) : List PFn → List Value → Prop
  | [], xs => xs = []
  | p :: ps, xs => ∃ pa pc a cap rest, xs = fnC p pa pc a cap ++ rest ∧ p.ps.length ≤ pc ∧ RepS w F p.ps pa ∧ p.bd.l.length ≤ cap ∧ RepNL w F p.bd.l a ∧ RowF w F ps rest

theorem RowF.to {w w' : World} {F F' : Nat → Prop} (h : ∀ b, F b → F' b ∧ w'.heap[b]? = w.heap[b]?) : ∀ {ps : List PFn} {xs : List Value}, RowF w F ps xs → RowF w' F' ps xs := by
  intro ps
  induction ps with
  | nil => intro xs hx; exact hx
  | cons p ps ih =>
    intro xs hx
    obtain ⟨pa, pc, a, cap, rest, e, hp, hs, hb, hl, hr⟩ := hx
    exact ⟨pa, pc, a, cap, rest, e, hp, hs.to h, hb, RepNL.to h _ _ hl, ih hr⟩

theorem RowF.snoc {w : World} {F : Nat → Prop} {p : PFn} {pa : Option Addr} {pc : Nat} {a : Option Addr} {cap : Nat} (hp : p.ps.length ≤ pc) (hs : RepS w F p.ps pa) (hb : p.bd.l.length ≤ cap) (hl : RepNL w F p.bd.l a) :
    ∀ {ps : List PFn} {xs : List Value}, RowF w F ps xs → RowF w F (ps ++ [p]) (xs ++ fnC p pa pc a cap) := by
  intro ps
  induction ps with
  | nil =>
    intro xs hx
    have : xs = [] := hx
    subst this
    exact ⟨pa, pc, a, cap, [], by simp, hp, hs, hb, hl, rfl⟩
  | cons q ps ih =>
    intro xs hx
    obtain ⟨pa', pc', a', cap', rest, e, hp', hs', hb', hl', hr⟩ := hx
    exact ⟨pa', pc', a', cap', rest ++ _, by rw [e]; simp, hp', hs', hb', hl', ih hr⟩

/-- A row of functions at an address. -/
def RepFL (w : World) (F : Nat → Prop) (ps : List PFn) (a : Option Addr) : Prop :=
  ps = [] ∨ ∃ b off xs, a = some ⟨b, off, none⟩ ∧ F b ∧ RowF w F ps xs ∧ ∀ j u, xs[j]? = some u → w.cell? ⟨b, off + j, none⟩ = some u
theorem RepFL.to {w w' : World} {F F' : Nat → Prop} (h : ∀ b, F b → F' b ∧ w'.heap[b]? = w.heap[b]?) {ps : List PFn} {a : Option Addr} (hr : RepFL w F ps a) : RepFL w' F' ps a := by
  rcases hr with hr | ⟨b, off, xs, rfl, hb, hx, hc⟩
  · exact Or.inl hr
  · exact Or.inr ⟨b, off, xs, rfl, (h b hb).1, hx.to h, fun j u hu => by rw [World.cell?_of_block (w := w) (h b hb).2]; exact hc j u hu⟩

theorem infoF : (Tryz.prog.info? 62).map (fun i => (i.zero, i.size, i.bytes)) = some (some (funV emptyB none 0 0 0 0 emptyB 0 none 0 0), 7, 104) := by kernel_rfl

/-- What holds at the head of the loop. -/
structure FunI (g len : Nat) (bl : Rdr) (f : Nat) (w wr : World) (R : List PFn × PS) (stc : PS) (k : Nat) (acc : List PFn) (ao : Option Addr) (cap : Nat) : Prop where
  eq : R = funsP len bl f k acc stc
  fuel : stc.ts.length < k
  bnd : acc.length + stc.ts.length ≤ 100001
  rs : Rs wr g len stc
  gr : Gr g w wr
  own : ∃ xs, wr.ownsRow w.heap.size 62 7 (.slice ao acc.length cap) acc.length xs ∧ RowF wr (fun b => w.heap.size ≤ b ∧ b < wr.heap.size ∧ some b ≠ (Value.slice ao acc.length cap).ownBlock) acc xs

theorem heldF_on {x base : Nat} {wr w2 : World} {acc : List PFn} {v : Value} {n : Nat} {xs : List Value} (hx : wr.ownsRow base 62 7 v n xs ∧ RowF wr (fun b => base ≤ b ∧ b < wr.heap.size ∧ some b ≠ v.ownBlock) acc xs) (k : Gr x wr w2) (hb : x < base) :
    w2.ownsRow base 62 7 v n xs ∧ RowF w2 (fun b => base ≤ b ∧ b < w2.heap.size ∧ some b ≠ v.ownBlock) acc xs :=
  ⟨own_gr hx.1 k hb, RowF.to (fun b hb => ⟨⟨hb.1, Nat.lt_of_lt_of_le hb.2.1 k.size, hb.2.2⟩, k.block b hb.2.1 (by have := hb.1; omega)⟩) hx.2⟩

theorem own_F {wr : World} {base : Nat} {acc : List PFn} {ao : Option Addr} {cap : Nat} (h : ∃ xs, wr.ownsRow base 62 7 (.slice ao acc.length cap) acc.length xs ∧ RowF wr (fun b => base ≤ b ∧ b < wr.heap.size ∧ some b ≠ (Value.slice ao acc.length cap).ownBlock) acc xs) : acc.length ≤ cap ∧ RepFL wr (Fr base wr.heap.size) acc ao := by
  obtain ⟨xs, ho, hr⟩ := h
  obtain ⟨hlen, ⟨e, h0⟩ | ⟨b, cap2, cur, e, hb, hrow, hc, _⟩⟩ := id ho
  · have : acc = [] := List.length_eq_zero_iff.1 h0
    subst this
    exact ⟨Nat.zero_le _, Or.inl rfl⟩
  · injection e with e1 e2 e3
    subst e1 e3
    exact ⟨hc, Or.inr ⟨b, 0, xs, rfl, ⟨hb, (Array.getElem?_eq_some_iff.1 hrow).1⟩, RowF.to (fun x hx => ⟨⟨hx.1, hx.2.1⟩, rfl⟩) hr, cells_own ho⟩⟩

theorem one_fun (nm : ByteArray) (pa : Option Addr) (pn pc : Nat) (k o : Int) (s : ByteArray) (n : Int) (a : Option Addr) (ln cap : Nat) : ∀ u ∈ ([.string nm, .slice pa pn pc, .int .i64 k, .int .i64 o, .string s, .int .i64 n, .slice a ln cap] : List Value), u.oneCell' = true := by
  intro u hu
  simp at hu
  rcases hu with rfl | rfl | rfl | rfl | rfl | rfl | rfl <;> rfl

theorem FunI.snoc {g len : Nat} {bl : Rdr} {f : Nat} {w wr w2 w3 : World} {R : List PFn × PS} {st0 stc st2 : PS} {j : Nat} {acc : List PFn} {ao : Option Addr} {cap g' cap' : Nat} {nm : ByteArray} {ps : List ByteArray} {pa : Option Addr} {pc : Nat} {k o n : Int} {s : ByteArray} {l : List PN} {a : Option Addr} {c : Nat} {xs : List Value} (ob : Obj)
    (hR : Rs w g len st0) (h : FunI g len bl f w wr R stc (j + 1) acc ao cap) (hq : R = funsP len bl f j (acc ++ [⟨nm, ps, ⟨k, o, s, n, l⟩⟩]) st2) (hl : st2.ts.length < stc.ts.length) (hW : Gr g wr w2) (hS : St w2 g len st2) (hpc : ps.length ≤ pc) (hps : RepS w2 (Fr wr.heap.size w2.heap.size) ps pa) (hc : l.length ≤ c) (hll : RepNL w2 (Fr wr.heap.size w2.heap.size) l a)
    (hx : (w2.alloc ob).ownsRow w.heap.size 62 7 (.slice ao acc.length cap) acc.length xs ∧ RowF (w2.alloc ob) (fun b => w.heap.size ≤ b ∧ b < (w2.alloc ob).heap.size ∧ some b ≠ (Value.slice ao acc.length cap).ownBlock) acc xs)
    (ho : w3.ownsRow w.heap.size 62 7 (.slice (some ⟨g', 0, none⟩) (acc.length + 1) cap') (acc.length + 1) (xs ++ [.string nm, .slice pa ps.length pc, .int .i64 k, .int .i64 o, .string s, .int .i64 n, .slice a l.length c]))
    (hgw : (w2.alloc ob).grownBy w3 (Value.slice ao acc.length cap).ownBlock) (hw : (Value.slice ao acc.length cap).ownBlock = some g' ∨ (w2.alloc ob).heap.size ≤ g') :
    FunI g len bl f w w3 R st2 j (acc ++ [⟨nm, ps, ⟨k, o, s, n, l⟩⟩]) (some ⟨g', 0, none⟩) cap' := by
  have hg : g < w.heap.size := hR.st.lt
  have hz : (w2.alloc ob).heap.size = w2.heap.size + 1 := size_alloc _ _
  have hln : (acc ++ [(⟨nm, ps, ⟨k, o, s, n, l⟩⟩ : PFn)]).length = acc.length + 1 := by simp
  have G3 : Gr g w w3 := Gr.append ((h.gr.trans hW).alloc ob) hx.1 (Nat.le_refl _) hgw
  have S3 : St w3 g len st2 := (hS.alloc ob).append hg hx.1 hgw
  have hsz := h.gr.size
  have hF : ∀ b, (w.heap.size ≤ b ∧ b < (w2.alloc ob).heap.size ∧ some b ≠ (Value.slice ao acc.length cap).ownBlock) →
      (w.heap.size ≤ b ∧ b < w3.heap.size ∧ some b ≠ (Value.slice (some ⟨g', 0, none⟩) (acc ++ [(⟨nm, ps, ⟨k, o, s, n, l⟩⟩ : PFn)]).length cap').ownBlock) ∧ w3.heap[b]? = (w2.alloc ob).heap[b]? := by
    intro b hb
    refine ⟨⟨hb.1, Nat.lt_of_lt_of_le hb.2.1 hgw.size, ?_⟩, hgw.block b hb.2.1 hb.2.2⟩
    intro e
    simp only [Value.ownBlock, Option.some.injEq] at e
    rcases hw with e2 | e2
    · exact hb.2.2 (by rw [e2, e])
    · have := hb.2.1; omega
  have hE : ∀ b, Fr wr.heap.size w2.heap.size b → (w.heap.size ≤ b ∧ b < (w2.alloc ob).heap.size ∧ some b ≠ (Value.slice ao acc.length cap).ownBlock) ∧ (w2.alloc ob).heap[b]? = w2.heap[b]? := by
    intro b hb
    obtain ⟨ys, hy, _⟩ := h.own
    exact ⟨⟨by have := hb.1; omega, by have := hb.2; omega, fun e => by have := (hy.lt b e.symm).2; have := hb.1; omega⟩, (Ext.alloc w2 ob).block b hb.2⟩
  exact ⟨hq, by have := h.fuel; omega, by rw [hln]; have := h.bnd; omega, hR.go G3 S3, G3, _, by rw [hln]; exact ho, RowF.snoc (p := ⟨nm, ps, ⟨k, o, s, n, l⟩⟩) hpc ((hps.to hE).to hF) hc (RepNL.to hF _ _ (RepNL.to hE _ _ hll)) (RowF.to hF hx.2)⟩

/-- What a call that reads functions answers. -/
def FunsAre (g len : Nat) (w : World) (r : List PFn × PS) (e : Ending) (w' : World) : Prop :=
  ∃ a cap, e = .returned (.slice a r.1.length cap) ∧ r.1.length ≤ cap ∧ RepFL w' (Fr w.heap.size w'.heap.size) r.1 a ∧ St w' g len r.2 ∧ Gr g w w'

set_option maxHeartbeats 1000000 in
theorem funs_any (len g : Nat) (bl : Rdr) (f : Nat) (st : PS) (w : World) (hR : Rs w g len st) (hf : st.ts.length < f) (hf2 : f ≤ 100000) (hsh : Shorter bl) (hbl : ∀ s : PS, s.ts.length ≤ st.ts.length → ExIs g len 79 bl s w) :
    Calls Tryz.prog 25 #[.pointer (some ⟨g, 0, none⟩)] w (FunsAre g len w (funsP len bl f f [] st)) := by
  have hg : g < w.heap.size := hR.st.lt
  obtain ⟨R, hRR⟩ : ∃ R, R = funsP len bl f f [] st := ⟨_, rfl⟩
  rw [← hRR]
  have HR := hide hR
  have HB := hide hbl
  have HSH := hide hsh
  have MI : Hd (FunI g len bl f w w R st f [] none 0) := ⟨hRR, hf, by simp; omega, hR, Gr.refl _ _, [], World.ownsRow_nil _ _ _ _, rfl⟩
  clear hR hbl hsh hRR
  obtain ⟨i0, hi, hz0, hz1, hz2⟩ := info_parts infoF
  have HI := hide hi
  have Z0 := hide hz0
  have Z1 := hide hz1
  have Z2 := hide hz2
  clear hi hz0 hz1 hz2
  go_enter Tryz.func25, Tryz.ntmps25
  go_wp2_with fail
  go_loopw [2] (fun t wr => ∃ (acc : List PFn) (ao : Option Addr) (cap : Nat) (stc : PS) (j : Nat), t = .slice ao acc.length cap ∧ Hd (FunI g len bl f w wr R stc j acc ao cap) ∧ stc.ts.length ≤ st.ts.length) (fun _ wr => leftN g wr)
  case atStart => exact ⟨[], none, 0, st, f, rfl, MI, Nat.le_refl _⟩
  case round =>
    clear MI
    obtain ⟨acc, ao, cap, stc, j, rfl, hM, hle⟩ := hrel
    have HEn := hide (ended_any len g stc wr (unhide hM).rs.st)
    have hfu := (unhide hM).fuel
    obtain ⟨j, rfl⟩ : ∃ i, j = i + 1 := ⟨j - 1, by omega⟩
    cases hz : ((stc.ts.length : Int) == 0)
    · rw [hz] at HEn
      have hne : stc.ts ≠ [] := fun e => by rw [e] at hz; simp at hz
      have hR2 : R = funsP len bl f j (acc ++ [(funP len bl f stc).1]) (funP len bl f stc).2 := by rw [(unhide hM).eq, funsP, hz]; rfl
      have HR2 := hide hR2
      have hlB := funB_lt (len := len) (f := f) hne
      have HX := hide (fun_any len g bl f stc wr (unhide hM).rs (by omega) hf2 (fun W x h => unhide HB (funB len f stc).2 (by omega) W ((unhide hM).gr.trans x) h))
      have hl1 := fun_lt (len := len) (f := f) (unhide HSH) hne
      have hm0 : leftN g wr = stc.ts.length := left_st (unhide hM).rs.st
      have hbd := (unhide hM).bnd
      clear hR2 hz hne hlB
      generalize funP len bl f stc = q at *
      obtain ⟨⟨nm, ps, ⟨k, o, s, n, l⟩⟩, st4⟩ := q
      obtain ⟨xs, hx⟩ := (unhide hM).own
      have HXS := hide (fun w2 (x : Gr g wr w2) => heldF_on hx x hg)
      clear hx
      generalize hA : acc.length = A at *
      go_wp2_with (first
        | (go_at_call 48; refine Calls.mono (unhide HEn) ?_; rintro e w4 ⟨rfl, hw⟩; obtain rfl := hw.symm)
        | (go_at_call 49; refine Calls.mono (unhide HX) ?_; rintro e w5 ⟨v, rfl, ⟨pa, pc, a, c, rfl, hpc, hps, hcap, hll⟩, hs, hw⟩; have S5 := hide hs; have X5 := hide hw; have P5 := hide hps; have L5 := hide hll; clear hw hs hps hll)
        | (at_builtin; refine wpList_append_where rfl (.tmp 6) (.tmp 9) 39 rfl w.heap.size 62 i0 (funV emptyB none 0 0 0 0 emptyB 0 none 0 0) 7 104 Tryz.underlying39 (unhide HI) (unhide Z0) (unhide Z1) (unhide Z2) rfl (by decide) ao A cap xs rfl (unhide HXS _ ((unhide X5).alloc _)).1 ⟨w5.heap.size, 0, none⟩ 1 1 [.string nm, .slice pa ps.length pc, .int .i64 k, .int .i64 o, .string s, .int .i64 n, .slice a l.length c] rfl (by decide) rfl (cells_new w5 _ _) (one_fun _ _ _ _ _ _ _ _ _ _ _) ?c1 ?c2 ?c3 ?_))
      case c1 => unfold maxLen; omega
      case c2 => omega
      case c3 => have := (unhide hM).gr.size; have := (unhide X5).size; simp; omega
      intro g2 cap6 w6 ho6 hg6 hw6
      subst hA
      have MN : Hd (FunI g len bl f w w6 R st4 j (acc ++ [⟨nm, ps, ⟨k, o, s, n, l⟩⟩]) (some ⟨g2, 0, none⟩) cap6) := FunI.snoc _ (unhide HR) (unhide hM) (unhide HR2) hl1 (unhide X5) (unhide S5) hpc (unhide P5) hcap (unhide L5) (unhide HXS _ ((unhide X5).alloc _)) ho6 hg6 (by rw [size_alloc]; exact hw6)
      have hm1 : leftN g w6 = st4.ts.length := left_st (unhide MN).rs.st
      have hln : (acc ++ [(⟨nm, ps, ⟨k, o, s, n, l⟩⟩ : PFn)]).length = acc.length + 1 := by simp
      have hl1 : st4.ts.length < stc.ts.length := hl1
      clear ho6 hg6 hw6
      go_wp2_with fail
      go_roundw
      case rel => exact ⟨_, _, _, st4, j, by rw [hln], MN, by omega⟩
      case measure => rw [hm0, hm1]; omega
    · rw [hz] at HEn
      have hR2 : R = (acc, stc) := by rw [(unhide hM).eq, funsP, hz]; rfl
      subst hR2
      clear hz
      go_wp2_with (go_at_call 48; refine Calls.mono (unhide HEn) ?_; rintro e w4 ⟨rfl, hw⟩; obtain rfl := hw.symm)
      go_ret
      obtain ⟨d1, d2⟩ := own_F (unhide hM).own
      exact ⟨ao, cap, rfl, d1, d2, (unhide hM).rs.st, (unhide hM).gr⟩

end Go.Proofs.YtlgdjeiendmniaaGreatDoor
