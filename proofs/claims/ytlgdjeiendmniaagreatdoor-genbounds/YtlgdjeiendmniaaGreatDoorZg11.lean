/- The reader's steps that take a word, fail, open and shut. · The table of operators: which stands at a level with a sign; the node that it makes. · What it is that a world holds a tree; the nodes that operators make; words that stand alone. · What stands in brackets: one expression; several, parted by commas; calls and lists. -/
import Derived.Test.YtlgdjeiendmniaaGreatDoorZg10
import Derived.BigRegion
import Derived.Deep.MidRow
set_option linter.unusedSimpArgs false
set_option linter.unusedVariables false
set_option maxRecDepth 10000

namespace Go.Proofs.YtlgdjeiendmniaaGreatDoor
open Go.RowKit

/-- The slice of the words left, one further. -/
abbrev slN (a : Option Addr) (L cap : Nat) : Value := .slice (if cap = (min 1 (L : Int)).toNat then a else Option.map (fun x => x.add ((min 1 (L : Int)).toNat * 4)) a) (L - (min 1 (L : Int)).toNat) (cap - (min 1 (L : Int)).toNat)

theorem Sl.tail {w : World} {g : Nat} {a : Option Addr} {L cap : Nat} {ts : List Tk} (hL : L = ts.length) (h : Sl w g (.slice a L cap) ts) : Sl w g (slN a L cap) ts.tail := by
  obtain ⟨a', c, e, h1, h2, h3⟩ := h
  injection e with e1 e2 e3
  subst e3 e1 hL
  cases ts with
  | nil => exact ⟨_, _, rfl, Nat.zero_le _, by simp; omega, Or.inl rfl⟩
  | cons t r =>
    have hm : (min 1 (((t :: r).length : Nat) : Int)).toNat = 1 := by simp; omega
    unfold slN
    rw [hm]
    refine ⟨_, _, rfl, by simp at h1 ⊢; omega, by omega, ?_⟩
    rcases h3 with h3 | ⟨b, off, rfl, hb, hc⟩
    · cases h3
    · by_cases hr : r = []
      · exact Or.inl (by rw [hr]; rfl)
      · have hc1 : cap ≠ 1 := by
          intro e
          rw [e] at h1
          simp at h1
          exact hr h1
        rw [if_neg hc1]
        refine Or.inr ⟨b, off + 4, ?_, hb, fun j u hu => ?_⟩
        · show some (Addr.add _ 4) = _
          unfold Addr.add
          split <;> simp_all
        · have := hc (4 + j) u (by rw [List.flatMap_cons, List.getElem?_append_right (by show 4 ≤ _; omega)]; show (r.flatMap tkC)[4 + j - 4]? = _; rw [Nat.add_sub_cancel_left]; exact hu)
          rw [← Nat.add_assoc] at this
          exact this

theorem gen_world {F : World → Prop} {w : World} (h : ∀ W2, W2 = w → F W2) : F w := h _ rfl

set_option maxHeartbeats 2000000 in
theorem next_any (len g : Nat) (st : PS) (w : World) (hS : St w g len st) :
    Calls Tryz.prog 112 #[.pointer (some ⟨g, 0, none⟩)] w fun e w' => e = .returned (tokV (hdT st.ts 0).k (hdT st.ts 0).t (hdT st.ts 0).n (hdT st.ts 0).o) ∧ St w' g len st.next ∧ Gr g w w' := by
  have hg : g < w.heap.size := hS.lt
  have HA := hide (fun W (x : Ext w W) => ahead_any len g st 0 0 rfl W (hS.ext x))
  have HT := hide (fun W (x : Ext w W) => (hS.ext x).ex)
  obtain ⟨ts, op, pl, er⟩ := st
  generalize hdT ts 0 = y at HA
  obtain ⟨L, hL⟩ : ∃ L, L = ts.length := ⟨_, rfl⟩
  have HL := hide hL
  clear hS
  ·
    go_enter Tryz.func112, Tryz.ntmps112
    go_wp2_with (go_at_call 111; refine Calls.mono (unhide HA _ (Ext.alloc _ _)) ?_; rintro e w1 ⟨rfl, hw⟩; have X := hide ((Ext.alloc _ _).trans hw); have hg1 : w.heap.size < w1.heap.size := Nat.lt_of_lt_of_le (by simp) hw.le; have f4 := (Four.new w 138 0 ⟨#[]⟩ 0 0).on hw; have F4 := hide f4; clear hw f4)
    obtain ⟨W, hW⟩ : ∃ W, W = w1.alloc (.cells #[.int .i64 y.k, .string y.t, .int .i64 y.n, .int .i64 y.o] 138) := ⟨_, rfl⟩
    rw [← hW]
    have XW : Hd (Ext w W) := by rw [hW]; exact (unhide X).trans (Ext.alloc _ _)
    obtain ⟨T, h1, hT⟩ := unhide HT W (unhide XW)
    have hT0 := hT
    obtain ⟨a, cap, rfl, h3, h4, -⟩ := hT
    rw [← hL] at hT0
    have SLN := hide (fun W' (x : Gr g W W') => (Sl.tail hL hT0).on x)
    have H1 := hide h1
    have FW := (unhide F4).on (by rw [hW]; exact Ext.alloc _ _ : Ext w1 W)
    have r0 := FW.c0
    have r1 := FW.c1
    have r2 := FW.c2
    have r3 := FW.c3
    have rz := FW.fz
    have c0 : W.cell? ⟨g, 0, none⟩ = some (.slice a L cap) := by rw [hL]; exact rowC h1 0 rfl
    have hcap : L ≤ cap := by rw [hL]; exact h3
    have hm0 : 0 ≤ min 1 (L : Int) := by omega
    have hm1 : min 1 (L : Int) ≤ L := by omega
    have zf := rowF h1
    have b0 : W.cell? ⟨w1.heap.size, 0, none⟩ = some (.int .i64 y.k) := by rw [hW]; exact cell_box _ _ _ 0 rfl
    have b1 : W.cell? ⟨w1.heap.size, 1, none⟩ = some (.string y.t) := by rw [hW]; exact cell_box _ _ _ 1 rfl
    have b2 : W.cell? ⟨w1.heap.size, 2, none⟩ = some (.int .i64 y.n) := by rw [hW]; exact cell_box _ _ _ 2 rfl
    have b3 : W.cell? ⟨w1.heap.size, 3, none⟩ = some (.int .i64 y.o) := by rw [hW]; exact cell_box _ _ _ 3 rfl
    have gx : ¬ w1.heap.size = g := by omega
    have gy : ¬ w.heap.size = g := by omega
    clear h1 hW h3 hL hT0 FW
    go_region
    refine gen_world (F := fun W2 => Exit.then _ _ _ _ (World.drew W2)) ?_
    intro W2 hW2
    have q0 : W2.cell? ⟨w.heap.size, 0, none⟩ = some (.int .i64 0) := by rw [hW2, World.cell?_setCell_other _ _ _ _ (by simp [gy])]; exact r0
    have q1 : W2.cell? ⟨w.heap.size, 1, none⟩ = some (.string ⟨#[]⟩) := by rw [hW2, World.cell?_setCell_other _ _ _ _ (by simp [gy])]; exact r1
    have q2 : W2.cell? ⟨w.heap.size, 2, none⟩ = some (.int .i64 0) := by rw [hW2, World.cell?_setCell_other _ _ _ _ (by simp [gy])]; exact r2
    have q3 : W2.cell? ⟨w.heap.size, 3, none⟩ = some (.int .i64 0) := by rw [hW2, World.cell?_setCell_other _ _ _ _ (by simp [gy])]; exact r3
    have d0 : W2.cell? ⟨w1.heap.size, 0, none⟩ = some (.int .i64 y.k) := by rw [hW2, World.cell?_setCell_other _ _ _ _ (by simp [gx])]; exact b0
    have d1 : W2.cell? ⟨w1.heap.size, 1, none⟩ = some (.string y.t) := by rw [hW2, World.cell?_setCell_other _ _ _ _ (by simp [gx])]; exact b1
    have d2 : W2.cell? ⟨w1.heap.size, 2, none⟩ = some (.int .i64 y.n) := by rw [hW2, World.cell?_setCell_other _ _ _ _ (by simp [gx])]; exact b2
    have d3 : W2.cell? ⟨w1.heap.size, 3, none⟩ = some (.int .i64 y.o) := by rw [hW2, World.cell?_setCell_other _ _ _ _ (by simp [gx])]; exact b3
    have qz : ∀ i, W2.frozen? ⟨w.heap.size, i, none⟩ = false := fun i => by rw [hW2]; simpa using rz i
    have S2 : Hd (St W2 g len ⟨ts.tail, op, pl, er⟩) := by rw [hW2]; exact St.put (unhide H1) (unhide SLN)
    have G2 : Hd (Gr g w W2) := by rw [hW2]; exact (Gr.of (unhide XW)).set (p := ⟨g, 0, none⟩) (Or.inr rfl) _
    clear hW2 r0 r1 r2 r3 rz b0 b1 b2 b3 c0 zf H1 SLN hcap hm0 hm1
    go_wp2
    all_goals
      exact bodyPost_ret (v := tokV y.k y.t y.n y.o) (by simp [results, Tryz.results112, go_sem, q0, q1, q2, q3]) rfl ⟨rfl, ((unhide S2).set4 hg _ _ _ _).drew, ((unhide G2).set4 (Nat.le_refl _) _ _ _ _).drew⟩

theorem takeSign_any (len g : Nat) (st : PS) (s : ByteArray) (w : World) (hS : St w g len st) :
    Calls Tryz.prog 113 #[.pointer (some ⟨g, 0, none⟩), .string s] w fun e w' => e = .returned (.bool (st.takeS s).1) ∧ St w' g len (st.takeS s).2 ∧ Gr g w w' := by
  have HI := hide (isSign_any len g st s w hS)
  have HN := hide (fun W (x : Ext w W) => next_any len g st W (hS.ext x))
  have HS := hide hS
  clear hS
  unfold PS.takeS
  cases hb : st.isS s
  · rw [hb] at HI
    rw [if_neg (by decide)]
    go_enter Tryz.func113, Tryz.ntmps113
    go_wp2_with (go_at_call 114; refine Calls.mono (unhide HI) ?_; rintro e w1 ⟨rfl, hw⟩; have X := hide hw; clear hw)
    go_ret
    exact ⟨rfl, (unhide HS).ext (unhide X), Gr.of (unhide X)⟩
  · rw [hb] at HI
    rw [if_pos rfl]
    go_enter Tryz.func113, Tryz.ntmps113
    go_wp2_with (first
      | (go_at_call 114; refine Calls.mono (unhide HI) ?_; rintro e w1 ⟨rfl, hw⟩; have X := hide hw; clear hw)
      | (go_at_call 112; refine Calls.mono (unhide HN _ (unhide X)) ?_; rintro e w2 ⟨rfl, hs, hw⟩; have S2 := hide hs; have Y := hide ((Gr.of (unhide X)).trans hw); clear hw hs))
    go_ret
    exact ⟨rfl, unhide S2, unhide Y⟩

theorem takeWord_any (len g : Nat) (st : PS) (s : ByteArray) (w : World) (hS : St w g len st) :
    Calls Tryz.prog 109 #[.pointer (some ⟨g, 0, none⟩), .string s] w fun e w' => e = .returned (.bool (st.takeW s).1) ∧ St w' g len (st.takeW s).2 ∧ Gr g w w' := by
  have HI := hide (isWord_p len g st s w hS)
  have HN := hide (fun W (x : Ext w W) => next_any len g st W (hS.ext x))
  have HS := hide hS
  clear hS
  unfold PS.takeW
  cases hb : st.isW s
  · rw [hb] at HI
    rw [if_neg (by decide)]
    go_enter Tryz.func109, Tryz.ntmps109
    go_wp2_with (go_at_call 141; refine Calls.mono (unhide HI) ?_; rintro e w1 ⟨rfl, hw⟩; have X := hide hw; clear hw)
    go_ret
    exact ⟨rfl, (unhide HS).ext (unhide X), Gr.of (unhide X)⟩
  · rw [hb] at HI
    rw [if_pos rfl]
    go_enter Tryz.func109, Tryz.ntmps109
    go_wp2_with (first
      | (go_at_call 141; refine Calls.mono (unhide HI) ?_; rintro e w1 ⟨rfl, hw⟩; have X := hide hw; clear hw)
      | (go_at_call 112; refine Calls.mono (unhide HN _ (unhide X)) ?_; rintro e w2 ⟨rfl, hs, hw⟩; have S2 := hide hs; have Y := hide ((Gr.of (unhide X)).trans hw); clear hw hs))
    go_ret
    exact ⟨rfl, unhide S2, unhide Y⟩

theorem psign_any (len g : Nat) (st : PS) (s : ByteArray) (w : World) (hS : St w g len st) :
    Calls Tryz.prog 77 #[.pointer (some ⟨g, 0, none⟩), .string s] w fun e w' => e = .returned (.tuple #[]) ∧ St w' g len (st.sign len s) ∧ Gr g w w' := by
  have HI := hide (takeSign_any len g st s w hS)
  clear hS
  unfold PS.takeS at HI
  unfold PS.sign
  cases hb : st.isS s
  · rw [hb] at HI
    rw [if_neg (by decide)]
    have HF := hide (fun W (x : St W g len st) => fail_any len g st 10 W x)
    rw [if_neg (by decide)] at HI
    go_enter Tryz.func77, Tryz.ntmps77
    go_wp2_with (first
      | (go_at_call 113; refine Calls.mono (unhide HI) ?_; rintro e w1 ⟨rfl, hs, hw⟩; have S1 := hide hs; have X := hide hw; clear hw hs)
      | (go_at_call 110; refine Calls.mono (unhide HF _ (unhide S1)) ?_; rintro e w2 ⟨rfl, hs, hw⟩; have S2 := hide hs; have Y := hide ((unhide X).trans hw); clear hw hs))
    go_end0
    exact ⟨rfl, unhide S2, unhide Y⟩
  · rw [hb] at HI
    rw [if_pos rfl]
    rw [if_pos rfl] at HI
    go_enter Tryz.func77, Tryz.ntmps77
    go_wp2_with (go_at_call 113; refine Calls.mono (unhide HI) ?_; rintro e w1 ⟨rfl, hs, hw⟩; have S1 := hide hs; have X := hide hw; clear hw hs)
    go_end0
    exact ⟨rfl, unhide S1, unhide X⟩

theorem pword_any (len g : Nat) (st : PS) (s : ByteArray) (w : World) (hS : St w g len st) :
    Calls Tryz.prog 75 #[.pointer (some ⟨g, 0, none⟩), .string s] w fun e w' => e = .returned (.tuple #[]) ∧ St w' g len (st.word len s) ∧ Gr g w w' := by
  have HI := hide (takeWord_any len g st s w hS)
  clear hS
  unfold PS.takeW at HI
  unfold PS.word
  cases hb : st.isW s
  · rw [hb] at HI
    rw [if_neg (by decide)]
    have HF := hide (fun W (x : St W g len st) => fail_any len g st 10 W x)
    rw [if_neg (by decide)] at HI
    go_enter Tryz.func75, Tryz.ntmps75
    go_wp2_with (first
      | (go_at_call 109; refine Calls.mono (unhide HI) ?_; rintro e w1 ⟨rfl, hs, hw⟩; have S1 := hide hs; have X := hide hw; clear hw hs)
      | (go_at_call 110; refine Calls.mono (unhide HF _ (unhide S1)) ?_; rintro e w2 ⟨rfl, hs, hw⟩; have S2 := hide hs; have Y := hide ((unhide X).trans hw); clear hw hs))
    go_end0
    exact ⟨rfl, unhide S2, unhide Y⟩
  · rw [hb] at HI
    rw [if_pos rfl]
    rw [if_pos rfl] at HI
    go_enter Tryz.func75, Tryz.ntmps75
    go_wp2_with (go_at_call 109; refine Calls.mono (unhide HI) ?_; rintro e w1 ⟨rfl, hs, hw⟩; have S1 := hide hs; have X := hide hw; clear hw hs)
    go_end0
    exact ⟨rfl, unhide S1, unhide X⟩

theorem name_p (len g : Nat) (st : PS) (w : World) (hS : St w g len st) :
    Calls Tryz.prog 76 #[.pointer (some ⟨g, 0, none⟩)] w fun e w' => e = .returned (.string (st.name len).1) ∧ St w' g len (st.name len).2 ∧ Gr g w w' := by
  have HA := hide (ahead_any len g st 0 0 rfl w hS)
  have HS := hide hS
  clear hS
  unfold PS.name
  by_cases hk : (hdT st.ts 0).k = 1
  · rw [if_pos hk]
    have k1 : ((hdT st.ts 0).k == 1) = true := by simp [hk]
    have k2 : ((hdT st.ts 0).k != 1) = false := by simp [hk]
    have HN := hide (fun W (x : Ext w W) => next_any len g st W ((unhide HS).ext x))
    generalize hdT st.ts 0 = y at *
    clear hk
    go_enter Tryz.func76, Tryz.ntmps76
    go_wp2_with (first
      | (go_at_call 111; refine Calls.mono (unhide HA) ?_; rintro e w1 ⟨rfl, hw⟩; have X := hide hw; clear hw)
      | (go_at_call 112; refine Calls.mono (unhide HN _ (unhide X)) ?_; rintro e w2 ⟨rfl, hs, hw⟩; have S2 := hide hs; have Y := hide ((Gr.of (unhide X)).trans hw); clear hw hs))
    go_ret
    exact ⟨rfl, unhide S2, unhide Y⟩
  · rw [if_neg hk]
    have k1 : ((hdT st.ts 0).k == 1) = false := by simp [hk]
    have k2 : ((hdT st.ts 0).k != 1) = true := by simp [hk]
    have HF := hide (fun W (x : Ext w W) => fail_any len g st 10 W ((unhide HS).ext x))
    have HN := hide (fun W (x : St W g len (st.fail len 10)) => next_any len g (st.fail len 10) W x)
    have e1 : (st.fail len 10).ts = [] := by unfold PS.fail; split <;> rfl
    have e2 : (st.fail len 10).next = st.fail len 10 := by unfold PS.next PS.fail; split <;> rfl
    have e3 : hdT (st.fail len 10).ts 0 = tkZ := by rw [e1]; rfl
    rw [e2, e3] at HN
    generalize hdT st.ts 0 = y at *
    clear hk e1 e2 e3
    go_enter Tryz.func76, Tryz.ntmps76
    go_wp2_with (first
      | (go_at_call 111; refine Calls.mono (unhide HA) ?_; rintro e w1 ⟨rfl, hw⟩; have X := hide hw; clear hw)
      | (go_at_call 110; refine Calls.mono (unhide HF _ (unhide X)) ?_; rintro e w2 ⟨rfl, hs, hw⟩; have S2 := hide hs; have Y := hide ((Gr.of (unhide X)).trans hw); clear hw hs)
      | (go_at_call 112; refine Calls.mono (unhide HN _ (unhide S2)) ?_; rintro e w3 ⟨rfl, hs, hw⟩; have S3 := hide hs; have Z := hide ((unhide Y).trans hw); clear hw hs))
    go_ret
    exact ⟨rfl, unhide S3, unhide Z⟩

theorem enter_p (len g : Nat) (st : PS) (w : World) (hS : St w g len st) :
    Calls Tryz.prog 115 #[.pointer (some ⟨g, 0, none⟩)] w fun e w' => e = .returned (.tuple #[]) ∧ St w' g len (st.enter len) ∧ Gr g w w' := by
  have HF := hide (fun W (x : St W g len st.up) => fail_any len g st.up 21 W x)
  obtain ⟨T, h1, hT⟩ := hS.ex
  have c2 : w.cell? ⟨g, 2, none⟩ = some (.int .i64 st.op) := rowC h1 2 rfl
  have zf := rowF h1
  have SU : Hd (St (w.setCell ⟨g, 2, none⟩ (.int .i64 (wrap64 (st.op + 1)))) g len st.up) := hS.putOp _
  have GU : Hd (Gr g w (w.setCell ⟨g, 2, none⟩ (.int .i64 (wrap64 (st.op + 1))))) := (Gr.refl g w).set (p := ⟨g, 2, none⟩) (Or.inr rfl) _
  unfold PS.enter
  clear hS h1 hT
  by_cases h : 24 < wrap64 (st.op + 1)
  · rw [if_pos h]
    go_enter Tryz.func115, Tryz.ntmps115
    go_wp2_with (go_at_call 110; refine Calls.mono (unhide HF _ (unhide SU)) ?_; rintro e w2 ⟨rfl, hs, hw⟩; have S2 := hide hs; have Y := hide ((unhide GU).trans hw); clear hw hs)
    go_end0
    exact ⟨rfl, unhide S2, unhide Y⟩
  · rw [if_neg h]
    go_enter Tryz.func115, Tryz.ntmps115
    go_wp2_with fail
    go_end0
    exact ⟨rfl, unhide SU, unhide GU⟩

/-- Leaving, as a deferred call. -/
theorem leave_p (len g : Nat) (st : PS) (u : FrameMode) (w : World) (hS : St w g len st) :
    CallsD Tryz.prog 116 #[.pointer (some ⟨g, 0, none⟩)] u w fun e u' w' => u' = u ∧ (e = .returned (.tuple #[]) ∧ St w' g len st.leave ∧ Gr g w w') := by
  obtain ⟨T, h1, hT⟩ := hS.ex
  have c2 : w.cell? ⟨g, 2, none⟩ = some (.int .i64 st.op) := rowC h1 2 rfl
  have zf := rowF h1
  have SU : Hd (St (w.setCell ⟨g, 2, none⟩ (.int .i64 (wrap64 (st.op - 1)))) g len st.leave) := hS.putOp _
  have GU : Hd (Gr g w (w.setCell ⟨g, 2, none⟩ (.int .i64 (wrap64 (st.op - 1))))) := (Gr.refl g w).set (p := ⟨g, 2, none⟩) (Or.inr rfl) _
  clear hS h1 hT
  go_enter_d Tryz.func116, Tryz.ntmps116
  go_wp2
  go_end0
  exact ⟨rfl, unhide SU, unhide GU⟩

end Go.Proofs.YtlgdjeiendmniaaGreatDoor

namespace Go.Proofs.YtlgdjeiendmniaaGreatDoor
open Go.RowKit

def oprC (o : Opr) : List Value := [.string o.s, .int .i64 o.lv, .int .i64 o.k, .int .i64 o.o]
abbrev oprV (o : Opr) : Value := .agg #[.string o.s, .int .i64 o.lv, .int .i64 o.k, .int .i64 o.o]
def oprZ : Opr := ⟨emptyB, 0, 0, 0⟩
def opTab : List Value := oprs.flatMap oprC

/-- The table of operators is as the program's text lays it. -/
def Opx (w : World) : Prop := w.rangeAt 6 0 opTab
theorem Opx.ext {w w' : World} (h : Opx w) (e : Ext w w') : Opx w' := fun j v hv => e.cell (h j v hv)

theorem opx_load {w : World} (h : Opx w) : (Instr.loadAt 225 (.pointer (some ⟨6, 0, none⟩))).run Tryz.prog w = .ok (.agg opTab.toArray) w :=
  run_loadAt_mid w _ 0 _ opTab _ h Tryz.underlying225 rfl (by kernel_rfl)

theorem opx_at (j : Nat) (x : Opr) (h : oprs[j]? = some x) (W : World) : (Instr.index 225 (.agg opTab.toArray) (.int .i64 (j : Int))).run Tryz.prog W = .ok (oprV x) W := by
  match j, h with
  | 0, h => obtain rfl := Option.some.inj h; rfl
  | 1, h => obtain rfl := Option.some.inj h; rfl
  | 2, h => obtain rfl := Option.some.inj h; rfl
  | 3, h => obtain rfl := Option.some.inj h; rfl
  | 4, h => obtain rfl := Option.some.inj h; rfl
  | 5, h => obtain rfl := Option.some.inj h; rfl
  | 6, h => obtain rfl := Option.some.inj h; rfl
  | 7, h => obtain rfl := Option.some.inj h; rfl
  | 8, h => obtain rfl := Option.some.inj h; rfl
  | 9, h => obtain rfl := Option.some.inj h; rfl
  | 10, h => obtain rfl := Option.some.inj h; rfl
  | 11, h => obtain rfl := Option.some.inj h; rfl
  | 12, h => obtain rfl := Option.some.inj h; rfl
  | 13, h => obtain rfl := Option.some.inj h; rfl
  | 14, h => obtain rfl := Option.some.inj h; rfl
  | 15, h => obtain rfl := Option.some.inj h; rfl
  | j + 16, h => simp [oprs] at h

abbrev oprO (o : Opr) : Obj := .cells #[.string o.s, .int .i64 o.lv, .int .i64 o.k, .int .i64 o.o] 198 (0, 0)

theorem find_step {lv : Int} {s : ByteArray} {j : Nat} {x : Opr} (h : oprs[j]? = some x) (hn : ∀ y ∈ oprs.take j, opHit lv s y = false) : if opHit lv s x then atLv lv s = some x else ∀ y ∈ oprs.take (j + 1), opHit lv s y = false := by
  obtain ⟨hj, hx0⟩ := List.getElem?_eq_some_iff.1 h
  have hd : oprs = oprs.take j ++ x :: oprs.drop (j + 1) := by
    rw [← hx0, ← List.drop_eq_getElem_cons hj, List.take_append_drop]
  split
  · rename_i hx
    unfold atLv
    rw [hd, List.find?_append, List.find?_eq_none.2 (fun y hy => by rw [hn y hy]; decide)]
    simp [hx]
  · rename_i hx
    intro y hy
    rw [List.take_succ_eq_append_getElem hj, hx0] at hy
    rcases List.mem_append.1 hy with hy | hy
    · exact hn y hy
    · rw [List.mem_singleton.1 hy]; simpa using hx

theorem find_none {lv : Int} {s : ByteArray} (hn : ∀ y ∈ oprs.take 16, opHit lv s y = false) : atLv lv s = none :=
  List.find?_eq_none.2 (fun y hy => by rw [hn y hy]; decide)

/-- The four cells of an operator's variable, stored anew. -/
abbrev setO (w : World) (g : Nat) (o : Opr) : World :=
  (((w.setCell ⟨g, 0, none⟩ (.string o.s)).setCell ⟨g, 1, none⟩ (.int .i64 o.lv)).setCell ⟨g, 2, none⟩ (.int .i64 o.k)).setCell ⟨g, 3, none⟩ (.int .i64 o.o)
theorem setO_ext {w w' : World} (h : Ext w w') (g : Nat) (hg : w.heap.size ≤ g) (o : Opr) : Ext w (setO w' g o) :=
  (((h.set (p := ⟨g, 0, none⟩) hg _).set (p := ⟨g, 1, none⟩) hg _).set (p := ⟨g, 2, none⟩) hg _).set (p := ⟨g, 3, none⟩) hg _
theorem setO_row {w : World} {g : Nat} {o : Opr} (h : w.heap[g]? = some (oprO o)) (x : Opr) : (setO w g x).heap[g]? = some (oprO x) :=
  row_set (row_set (row_set (row_set h 0 _) 1 _) 2 _) 3 _
theorem setO_past {w : World} {g : Nat} {o : Opr} (h : w.heap[g]? = some (oprO o)) (x : Opr) (i : Nat) (v : Value) (hi : (oprC x)[i]? = some v) (p : Obj) : ((setO w g x).alloc p).cell? ⟨g, i, none⟩ = some v :=
  rowC ((Ext.alloc _ p).row (setO_row h x)) i (by simpa [oprC] using hi)
theorem St.setO {w : World} {g len : Nat} {st : PS} (h : St w g len st) {b : Nat} (hb : g < b) (o : Opr) : St (setO w b o) g len st :=
  (((h.set hb _ _).set hb _ _).set hb _ _).set hb _ _
theorem Gr.setO {g : Nat} {a w : World} (h : Gr g a w) {b : Nat} (hb : a.heap.size ≤ b) (o : Opr) : Gr g a (setO w b o) :=
  (((h.set (Or.inl hb) _).set (Or.inl hb) _).set (Or.inl hb) _).set (Or.inl hb) _

set_option maxHeartbeats 2000000 in
theorem atLevel_any (lv : Int) (s : ByteArray) (w : World) (hO : Opx w) :
    Calls Tryz.prog 182 #[.int .i64 lv, .string s] w fun e w' => e = .returned (.tuple #[oprV ((atLv lv s).getD oprZ), .bool (atLv lv s).isSome]) ∧ Ext w w' := by
  have HL := hide (hO.ext (Ext.alloc w (.cells #[.string ⟨#[]⟩, .int .i64 0, .int .i64 0, .int .i64 0] 198)))
  have HX := hide opx_at
  have HZ : Hd ((Tryz.prog.info? 225).map (·.size) = some opTab.length) := by unfold Hd; kernel_rfl
  unfold Opx at HL
  generalize opTab = tab at HL HX HZ
  clear hO
  go_enter Tryz.func182, Tryz.ntmps182
  go_wp2_with (refine wpList_load_mid rfl 225 (.global 6) rfl 6 0 rfl tab _ (unhide HL) Tryz.underlying225 rfl (unhide HZ) ?_)
  go_loopw [9] (fun i wr => ∃ j : Nat, i = .int .i64 j ∧ j ≤ 16 ∧ Hd (∀ y ∈ oprs.take j, opHit lv s y = false) ∧ Hd (Ext w wr) ∧ Hd (wr.heap[w.heap.size]? = some (oprO oprZ))) (fun i _ => 16 - (intOf i).toNat)
  case atStart => exact ⟨0, rfl, by omega, fun y hy => by simp at hy, Ext.alloc _ _, Go.heap_alloc_new w _⟩
  case round =>
    obtain ⟨j, rfl, hj, hN, hE, hR⟩ := hrel
    by_cases hlt : j < 16
    · obtain ⟨x, hx⟩ : ∃ x, oprs[j]? = some x := ⟨_, List.getElem?_eq_getElem hlt⟩
      have hix := unhide HX j x hx
      have hst := find_step hx (unhide hN)
      cases h1 : (x.lv == lv)
      · have hh : opHit lv s x = false := by unfold opHit; rw [h1]; rfl
        rw [hh, if_neg (by decide)] at hst
        have HN2 := hide hst
        clear hst hh hx
        go_wp2
        go_roundw
        case rel => exact ⟨j + 1, by go_num, by omega, HN2, (unhide hE).trans (Ext.alloc _ _), (Ext.alloc _ _).row (unhide hR)⟩
        case measure => simp [intOf]; omega
      · cases h2 : (x.s.toList == s.toList)
        · have hh : opHit lv s x = false := by unfold opHit; rw [h1, h2]; rfl
          rw [hh, if_neg (by decide)] at hst
          have HN2 := hide hst
          clear hst hh hx
          go_wp2
          go_roundw
          case rel => exact ⟨j + 1, by go_num, by omega, HN2, (unhide hE).trans (Ext.alloc _ _), (Ext.alloc _ _).row (unhide hR)⟩
          case measure => simp [intOf]; omega
        · have hh : opHit lv s x = true := by unfold opHit; rw [h1, h2]; rfl
          rw [hh, if_pos rfl] at hst
          have HST := hide hst
          have r0 := rowC (unhide hR) 0 rfl
          have r1 := rowC (unhide hR) 1 rfl
          have r2 := rowC (unhide hR) 2 rfl
          have r3 := rowC (unhide hR) 3 rfl
          have rz := rowF (unhide hR)
          have hlt2 : w.heap.size < wr.heap.size := (Array.getElem?_eq_some_iff.1 (unhide hR)).1
          have q0 := setO_past (unhide hR) x 0 _ rfl
          have q1 := setO_past (unhide hR) x 1 _ rfl
          have q2 := setO_past (unhide hR) x 2 _ rfl
          have q3 := setO_past (unhide hR) x 3 _ rfl
          clear hst hh hx
          go_wp2
          exact bodyPost_ret (v := .tuple #[oprV x, .bool true]) (by simp [results, Tryz.results182, go_sem, q0, q1, q2, q3]) rfl ⟨by rw [unhide HST]; rfl, (setO_ext (unhide hE) _ (Nat.le_refl _) _).trans (Ext.alloc _ _)⟩
    · have : j = 16 := by omega
      subst this
      have HST := hide (find_none (unhide hN))
      have r0 := rowC (unhide hR) 0 rfl
      have r1 := rowC (unhide hR) 1 rfl
      have r2 := rowC (unhide hR) 2 rfl
      have r3 := rowC (unhide hR) 3 rfl
      have rz := rowF (unhide hR)
      go_wp2
      exact bodyPost_ret (v := .tuple #[oprV oprZ, .bool false]) (by simp [results, Tryz.results182, go_sem, r0, r1, r2, r3, oprZ]) rfl ⟨by rw [unhide HST]; rfl, setO_ext (unhide hE) _ (Nat.le_refl _) oprZ⟩

set_option maxHeartbeats 1000000 in
theorem oper_any (len g : Nat) (st : PS) (lv : Int) (w : World) (hO : Opx w) (hS : St w g len st) :
    Calls Tryz.prog 172 #[.pointer (some ⟨g, 0, none⟩), .int .i64 lv] w fun e w' => e = .returned (.tuple #[oprV ((st.oper lv).getD oprZ), .bool (st.oper lv).isSome]) ∧ Ext w w' := by
  have HA := hide (fun W (x : Ext w W) => ahead_any len g st 0 0 rfl W (hS.ext x))
  have HL := hide (fun s W (x : Ext w W) => atLevel_any lv s W (hO.ext x))
  clear hS hO
  unfold PS.oper
  by_cases hk : (hdT st.ts 0).k = 6
  · rw [if_pos hk]
    have k1 : ((hdT st.ts 0).k == 6) = true := by simp [hk]
    have k2 : ((hdT st.ts 0).k != 6) = false := by simp [hk]
    generalize hdT st.ts 0 = y at *
    replace HL := hide (fun W x => unhide HL y.t W x)
    generalize (atLv lv y.t).getD oprZ = z at HL ⊢
    generalize (atLv lv y.t).isSome = b at HL ⊢
    clear hk
    go_enter Tryz.func172, Tryz.ntmps172
    go_wp2_with (first
      | (go_at_call 111; refine Calls.mono (unhide HA _ (Ext.alloc _ _)) ?_; rintro e w1 ⟨rfl, hw⟩; have RB := hide (hw.row (Go.heap_alloc_new w _)); have X := hide ((Ext.alloc _ _).trans hw); clear hw)
      | (go_at_call 182; refine Calls.mono (unhide HL _ ((unhide X).trans (Ext.alloc _ _))) ?_; rintro e w2 ⟨rfl, hw⟩; have RC := ((Ext.alloc _ _).trans hw).row (unhide RB); have r0 := rowC RC 0 rfl; have r1 := rowC RC 1 rfl; have r2 := rowC RC 2 rfl; have r3 := rowC RC 3 rfl; have rz := rowF RC; clear RC; have Y := hide (((unhide X).trans (Ext.alloc _ _)).trans hw); clear hw))
    exact bodyPost_ret (v := .tuple #[oprV z, .bool b]) (by simp [results, Tryz.results172, go_sem, r0, r1, r2, r3]) rfl ⟨rfl, setO_ext (unhide Y) _ (Nat.le_refl _) z⟩
  · rw [if_neg hk]
    have k1 : ((hdT st.ts 0).k == 6) = false := by simp [hk]
    have k2 : ((hdT st.ts 0).k != 6) = true := by simp [hk]
    generalize hdT st.ts 0 = y at *
    clear hk HL
    go_enter Tryz.func172, Tryz.ntmps172
    go_wp2_with (go_at_call 111; refine Calls.mono (unhide HA _ (Ext.alloc _ _)) ?_; rintro e w1 ⟨rfl, hw⟩; have RB := hw.row (Go.heap_alloc_new w _); have r0 := rowC RB 0 rfl; have r1 := rowC RB 1 rfl; have r2 := rowC RB 2 rfl; have r3 := rowC RB 3 rfl; have q0 : ∀ p, (World.alloc ((((w1.setCell ⟨w.heap.size, 0, none⟩ (.string ⟨#[]⟩)).setCell ⟨w.heap.size, 1, none⟩ (.int .i64 0)).setCell ⟨w.heap.size, 2, none⟩ (.int .i64 0)).setCell ⟨w.heap.size, 3, none⟩ (.int .i64 0)) p).cell? ⟨w.heap.size, 0, none⟩ = some (.string ⟨#[]⟩) := setO_past (o := oprZ) RB oprZ 0 _ rfl; have q1 : ∀ p, (World.alloc ((((w1.setCell ⟨w.heap.size, 0, none⟩ (.string ⟨#[]⟩)).setCell ⟨w.heap.size, 1, none⟩ (.int .i64 0)).setCell ⟨w.heap.size, 2, none⟩ (.int .i64 0)).setCell ⟨w.heap.size, 3, none⟩ (.int .i64 0)) p).cell? ⟨w.heap.size, 1, none⟩ = some (.int .i64 0) := setO_past (o := oprZ) RB oprZ 1 _ rfl; have q2 : ∀ p, (World.alloc ((((w1.setCell ⟨w.heap.size, 0, none⟩ (.string ⟨#[]⟩)).setCell ⟨w.heap.size, 1, none⟩ (.int .i64 0)).setCell ⟨w.heap.size, 2, none⟩ (.int .i64 0)).setCell ⟨w.heap.size, 3, none⟩ (.int .i64 0)) p).cell? ⟨w.heap.size, 2, none⟩ = some (.int .i64 0) := setO_past (o := oprZ) RB oprZ 2 _ rfl; have q3 : ∀ p, (World.alloc ((((w1.setCell ⟨w.heap.size, 0, none⟩ (.string ⟨#[]⟩)).setCell ⟨w.heap.size, 1, none⟩ (.int .i64 0)).setCell ⟨w.heap.size, 2, none⟩ (.int .i64 0)).setCell ⟨w.heap.size, 3, none⟩ (.int .i64 0)) p).cell? ⟨w.heap.size, 3, none⟩ = some (.int .i64 0) := setO_past (o := oprZ) RB oprZ 3 _ rfl; have rz := rowF RB; have hlt : w.heap.size < w1.heap.size := (Array.getElem?_eq_some_iff.1 RB).1; clear RB; have X := hide ((Ext.alloc _ _).trans hw); clear hw)
    exact bodyPost_ret (v := .tuple #[oprV oprZ, .bool false]) (by simp [results, Tryz.results172, go_sem, q0, q1, q2, q3, oprZ]) rfl ⟨rfl, (setO_ext (unhide X) _ (Nat.le_refl _) oprZ).trans (Ext.alloc _ _)⟩

set_option maxHeartbeats 1000000 in
theorem takeOp_any (len g : Nat) (st : PS) (lv : Int) (w : World) (hO : Opx w) (hS : St w g len st) :
    Calls Tryz.prog 160 #[.pointer (some ⟨g, 0, none⟩), .int .i64 lv] w fun e w' => e = .returned (.tuple #[oprV ((st.takeO lv).1.getD oprZ), .bool (st.takeO lv).1.isSome]) ∧ St w' g len (st.takeO lv).2 ∧ Gr g w w' := by
  have hg : g < w.heap.size := hS.lt
  have HL := hide (fun W (x : Ext w W) => oper_any len g st lv W (hO.ext x) (hS.ext x))
  have HN := hide (fun W (x : Ext w W) => next_any len g st W (hS.ext x))
  have HS := hide hS
  clear hS hO
  unfold PS.takeO
  cases ho : st.oper lv with
  | none =>
    rw [ho] at HL
    simp only [Option.getD_none, Option.isSome_none] at HL ⊢
    clear ho HN
    go_enter Tryz.func160, Tryz.ntmps160
    go_wp2_with (go_at_call 172; refine Calls.mono (unhide HL _ (Ext.alloc _ _)) ?_; rintro e w1 ⟨rfl, hw⟩; have RB := hw.row (Go.heap_alloc_new w _); have r0 := rowC RB 0 rfl; have r1 := rowC RB 1 rfl; have r2 := rowC RB 2 rfl; have r3 := rowC RB 3 rfl; have q0 := setO_past (o := oprZ) RB oprZ 0 _ rfl; have q1 := setO_past (o := oprZ) RB oprZ 1 _ rfl; have q2 := setO_past (o := oprZ) RB oprZ 2 _ rfl; have q3 := setO_past (o := oprZ) RB oprZ 3 _ rfl; have rz := rowF RB; have hlt : w.heap.size < w1.heap.size := (Array.getElem?_eq_some_iff.1 RB).1; clear RB; have X := hide ((Ext.alloc _ _).trans hw); clear hw)
    exact bodyPost_ret (v := .tuple #[oprV oprZ, .bool false]) (by simp [results, Tryz.results160, go_sem, q0, q1, q2, q3]) rfl ⟨rfl, (((unhide HS).ext (unhide X)).setO hg oprZ).alloc _, ((Gr.of (unhide X)).setO (Nat.le_refl _) oprZ).alloc _⟩
  | some z =>
    rw [ho] at HL
    simp only [Option.getD_some, Option.isSome_some] at HL ⊢
    clear ho
    go_enter Tryz.func160, Tryz.ntmps160
    go_wp2_with (first
      | (go_at_call 172; refine Calls.mono (unhide HL _ (Ext.alloc _ _)) ?_; rintro e w1 ⟨rfl, hw⟩; have RB := hide (hw.row (Go.heap_alloc_new w _)); have X := hide ((Ext.alloc _ _).trans hw); have hlt : w.heap.size < w1.heap.size := (Array.getElem?_eq_some_iff.1 (unhide RB)).1; clear hw)
      | (go_at_call 112; refine Calls.mono (unhide HN _ ((unhide X).trans (Ext.alloc _ _))) ?_; rintro e w2 ⟨rfl, hs, hw⟩; have RC := hw.row ((Ext.alloc _ _).row (unhide RB)) (by omega); have r0 := rowC RC 0 rfl; have r1 := rowC RC 1 rfl; have r2 := rowC RC 2 rfl; have r3 := rowC RC 3 rfl; have rz := rowF RC; have RD := hw.row (Go.heap_alloc_new w1 _) (by omega); have d0 := rowC RD 0 rfl; have d1 := rowC RD 1 rfl; have d2 := rowC RD 2 rfl; have d3 := rowC RD 3 rfl; clear RC RD; have S2 := hide hs; have Y := hide ((Gr.of ((unhide X).trans (Ext.alloc _ _))).trans hw); clear hw hs))
    exact bodyPost_ret (v := .tuple #[oprV z, .bool true]) (by simp [results, Tryz.results160, go_sem, r0, r1, r2, r3]) rfl ⟨rfl, (unhide S2).setO hg z, (unhide Y).setO (Nat.le_refl _) z⟩

end Go.Proofs.YtlgdjeiendmniaaGreatDoor

namespace Go.Proofs.YtlgdjeiendmniaaGreatDoor
open Go.RowKit

mutual
/-- The world holds the tree p as the Go value v; the blocks in which its lists lie are F's. -/
def RepN (w : World) (F : Nat → Prop) : PN → Value → Prop
  | .mk k o s n l, v => ∃ (a : Option Addr) (cap : Nat), v = .agg #[.int .i64 k, .int .i64 o, .string s, .int .i64 n, .slice a l.length cap] ∧ l.length ≤ cap ∧ RepNL w F l a
/-- From the address a on the world holds the trees of l, five cells each. -/
def RepNL (w : World) (F : Nat → Prop) : List PN → Option Addr → Prop
  | [], _ => True
  | x :: xs, a => ∃ b off c0 c1 c2 c3 c4, a = some ⟨b, off, none⟩ ∧ F b ∧ RepN w F x (.agg #[c0, c1, c2, c3, c4]) ∧
      w.cell? ⟨b, off, none⟩ = some c0 ∧ w.cell? ⟨b, off + 1, none⟩ = some c1 ∧ w.cell? ⟨b, off + 2, none⟩ = some c2 ∧ w.cell? ⟨b, off + 3, none⟩ = some c3 ∧ w.cell? ⟨b, off + 4, none⟩ = some c4 ∧
      RepNL w F xs (some ⟨b, off + 5, none⟩)
end

mutual
theorem RepN.to {w w' : World} {F F' : Nat → Prop} (h : ∀ b, F b → F' b ∧ w'.heap[b]? = w.heap[b]?) : ∀ (p : PN) (v : Value), RepN w F p v → RepN w' F' p v
  | .mk k o s n l, v, hr => by
    rw [RepN] at hr ⊢
    obtain ⟨a, cap, hv, hb, hl⟩ := hr
    exact ⟨a, cap, hv, hb, RepNL.to h l a hl⟩
theorem RepNL.to {w w' : World} {F F' : Nat → Prop} (h : ∀ b, F b → F' b ∧ w'.heap[b]? = w.heap[b]?) : ∀ (l : List PN) (a : Option Addr), RepNL w F l a → RepNL w' F' l a
  | [], a, _ => by simp [RepNL]
  | x :: xs, a, hr => by
    rw [RepNL] at hr ⊢
    obtain ⟨b, off, c0, c1, c2, c3, c4, rfl, hf, hx, h0, h1, h2, h3, h4, hxs⟩ := hr
    have hc : ∀ o, w'.cell? ⟨b, o, none⟩ = w.cell? ⟨b, o, none⟩ := fun o => World.cell?_of_block (w := w) (h b hf).2
    exact ⟨b, off, c0, c1, c2, c3, c4, rfl, (h b hf).1, RepN.to h x _ hx, by rw [hc]; exact h0, by rw [hc]; exact h1, by rw [hc]; exact h2, by rw [hc]; exact h3, by rw [hc]; exact h4, RepNL.to h xs _ hxs⟩
end

/-- The blocks from base on, below top. -/
def Fr (base top : Nat) : Nat → Prop := fun b => base ≤ b ∧ b < top

theorem RepN.gr {w w' : World} {g base : Nat} {p : PN} {v : Value} (h : RepN w (Fr base w.heap.size) p v) (k : Gr g w w') (hg : g < base) : RepN w' (Fr base w'.heap.size) p v :=
  RepN.to (fun b hb => ⟨⟨hb.1, Nat.lt_of_lt_of_le hb.2 k.size⟩, k.block b hb.2 (by have := hb.1; omega)⟩) p v h
theorem RepN.low {w : World} {base base' : Nat} {p : PN} {v : Value} (h : RepN w (Fr base w.heap.size) p v) (k : base' ≤ base) : RepN w (Fr base' w.heap.size) p v :=
  RepN.to (fun b hb => ⟨⟨Nat.le_trans k hb.1, hb.2⟩, rfl⟩) p v h
theorem repN_leaf (w : World) (F : Nat → Prop) (k o : Int) (s : ByteArray) (n : Int) (a : Option Addr) (cap : Nat) : RepN w F ⟨k, o, s, n, []⟩ (.agg #[.int .i64 k, .int .i64 o, .string s, .int .i64 n, .slice a 0 cap]) := by
  rw [RepN]
  exact ⟨a, cap, rfl, Nat.zero_le _, by simp [RepNL]⟩

theorem Opx.gr {w w' : World} {g : Nat} (h : Opx w) (k : Gr g w w') (hg : 6 < g) : Opx w' := fun j v hv => k.cell (h j v hv) (by omega)

/-- The block g holds a reader that stands so, and the table of operators is there. -/
structure Rs (w : World) (g len : Nat) (st : PS) : Prop where
  st : St w g len st
  op : Opx w
  pos : 6 < g

theorem Rs.go {w w' : World} {g len : Nat} {st st' : PS} (h : Rs w g len st) (k : Gr g w w') (s : St w' g len st') : Rs w' g len st' := ⟨s, h.op.gr k h.pos, h.pos⟩
theorem Rs.ext {w w' : World} {g len : Nat} {st : PS} (h : Rs w g len st) (k : Ext w w') : Rs w' g len st := ⟨h.st.ext k, h.op.ext k, h.pos⟩
theorem Rs.alloc {w : World} {g len : Nat} {st : PS} (h : Rs w g len st) (o : Obj) : Rs (w.alloc o) g len st := h.ext (Ext.alloc _ _)

/-- What a call of one of the reader's functions that read a tree answers. -/
def Tree (g len : Nat) (w : World) (r : PN × PS) (e : Ending) (w' : World) : Prop :=
  ∃ v, e = .returned v ∧ RepN w' (Fr w.heap.size w'.heap.size) r.1 v ∧ St w' g len r.2 ∧ Gr g w w'

abbrev nodV (k o : Int) (s : ByteArray) (n : Int) (l : Value) : Value := .agg #[.int .i64 k, .int .i64 o, .string s, .int .i64 n, l]
abbrev nodO (k o : Int) (s : ByteArray) (n : Int) (l : Value) : Obj := .cells #[.int .i64 k, .int .i64 o, .string s, .int .i64 n, l] 60 (0, 0)
abbrev set5 (w : World) (g : Nat) (k o : Int) (s : ByteArray) (n : Int) (l : Value) : World :=
  ((((w.setCell ⟨g, 0, none⟩ (.int .i64 k)).setCell ⟨g, 1, none⟩ (.int .i64 o)).setCell ⟨g, 2, none⟩ (.string s)).setCell ⟨g, 3, none⟩ (.int .i64 n)).setCell ⟨g, 4, none⟩ l
theorem set5_ext {w w' : World} (h : Ext w w') (g : Nat) (hg : w.heap.size ≤ g) (k o : Int) (s : ByteArray) (n : Int) (l : Value) : Ext w (set5 w' g k o s n l) :=
  ((((h.set (p := ⟨g, 0, none⟩) hg _).set (p := ⟨g, 1, none⟩) hg _).set (p := ⟨g, 2, none⟩) hg _).set (p := ⟨g, 3, none⟩) hg _).set (p := ⟨g, 4, none⟩) hg _
theorem St.set5 {w : World} {g len : Nat} {st : PS} (h : St w g len st) {b : Nat} (hb : g < b) (k o : Int) (s : ByteArray) (n : Int) (l : Value) : St (set5 w b k o s n l) g len st :=
  ((((h.set hb _ _).set hb _ _).set hb _ _).set hb _ _).set hb _ _
theorem Gr.set5 {g : Nat} {a w : World} (h : Gr g a w) {b : Nat} (hb : a.heap.size ≤ b) (k o : Int) (s : ByteArray) (n : Int) (l : Value) : Gr g a (set5 w b k o s n l) :=
  ((((h.set (Or.inl hb) _).set (Or.inl hb) _).set (Or.inl hb) _).set (Or.inl hb) _).set (Or.inl hb) _
theorem set5_row {w : World} {g : Nat} {k0 o0 n0 : Int} {s0 : ByteArray} {l0 : Value} (h : w.heap[g]? = some (nodO k0 o0 s0 n0 l0)) (k o : Int) (s : ByteArray) (n : Int) (l : Value) : (set5 w g k o s n l).heap[g]? = some (nodO k o s n l) :=
  row_set (row_set (row_set (row_set (row_set h 0 _) 1 _) 2 _) 3 _) 4 _
theorem set5_block {w : World} {b : Nat} {x : Nat} (hx : x ≠ b) (k o : Int) (s : ByteArray) (n : Int) (l : Value) : (set5 w b k o s n l).heap[x]? = w.heap[x]? := by
  rw [Below.heap_setCell _ _ _ _ hx, Below.heap_setCell _ _ _ _ hx, Below.heap_setCell _ _ _ _ hx, Below.heap_setCell _ _ _ _ hx, Below.heap_setCell _ _ _ _ hx]
theorem set5_size (w : World) (b : Nat) (k o : Int) (s : ByteArray) (n : Int) (l : Value) : (set5 w b k o s n l).heap.size = w.heap.size := by
  simp [World.setCell]

theorem node_any (o : Opr) (a : Option Addr) (n c : Nat) (w : World) :
    Calls Tryz.prog 161 #[oprV o, .slice a n c] w fun e w' => e = .returned (nodV o.k o.o emptyB 0 (.slice a n c)) ∧ Ext w w' := by
  go_enter Tryz.func161, Tryz.ntmps161
  go_wp2
  exact bodyPost_ret (v := nodV o.k o.o emptyB 0 (.slice a n c)) (by simp [results, Tryz.results161, go_sem]) rfl ⟨rfl, (Ext.alloc _ _).trans (Ext.alloc _ _)⟩

set_option maxHeartbeats 1000000 in
theorem isCall_any (len g : Nat) (st : PS) (w : World) (hS : St w g len st) :
    Calls Tryz.prog 205 #[.pointer (some ⟨g, 0, none⟩)] w fun e w' => e = .returned (.bool st.isCall) ∧ Ext w w' := by
  have HA := hide (fun W (x : Ext w W) => ahead_any len g st 0 0 rfl W (hS.ext x))
  have HB := hide (fun W (x : Ext w W) => ahead_any len g st 1 1 rfl W (hS.ext x))
  unfold PS.isCall isT
  clear hS
  generalize hdT st.ts 0 = y at *
  generalize hdT st.ts 1 = z at *
  cases hk : (y.k == 1)
  · go_enter Tryz.func205, Tryz.ntmps205
    go_wp2_with (go_at_call 111; refine Calls.mono (unhide HA _ (Ext.refl _)) ?_; rintro e w1 ⟨rfl, hw⟩; have X := hide hw; clear hw)
    go_ret
    exact ⟨rfl, unhide X⟩
  · go_enter Tryz.func205, Tryz.ntmps205
    go_wp2_with (first
      | (have G := unhide Y; clear G; go_at_call 143; refine Calls.mono (is_any _ _ _ _ _ _ _) ?_; rintro e w3 ⟨rfl, hw⟩; have Z := hide ((unhide Y).trans hw); clear hw)
      | (have G := unhide X; clear G; go_at_call 111; refine Calls.mono (unhide HB _ (unhide X)) ?_; rintro e w2 ⟨rfl, hw⟩; have Y := hide ((unhide X).trans hw); clear hw)
      | (go_at_call 111; refine Calls.mono (unhide HA _ (Ext.refl _)) ?_; rintro e w1 ⟨rfl, hw⟩; have X := hide hw; clear hw))
    go_ret
    exact ⟨by rw [Bool.true_and, show (⟨#[40]⟩ : ByteArray).toList = [40] by simp]; rfl, unhide Z⟩

/-- The end of a function that reads a tree: the answer's variable, stored anew. -/
theorem tree_end {g len : Nat} {w w2 : World} {st' : PS} {k o n : Int} {s : ByteArray} {a : Option Addr} {cap : Nat} {l : List PN} (hg : g < w.heap.size) (hs : St w2 g len st') (hw : Gr g w w2) (hl : l.length ≤ cap) (hr : RepNL w2 (fun b => w.heap.size < b ∧ b < w2.heap.size) l a) :
    Tree g len w (⟨k, o, s, n, l⟩, st') (.returned (nodV k o s n (.slice a l.length cap))) (set5 w2 w.heap.size k o s n (.slice a l.length cap)) := by
  refine ⟨_, rfl, ?_, hs.set5 hg _ _ _ _ _, hw.set5 (Nat.le_refl _) _ _ _ _ _⟩
  rw [RepN]
  refine ⟨a, cap, rfl, hl, RepNL.to (fun b hb => ⟨⟨by omega, by rw [set5_size]; exact hb.2⟩, set5_block (by omega) _ _ _ _ _⟩) _ _ hr⟩

set_option maxHeartbeats 2000000 in
theorem lit_any (len g : Nat) (st : PS) (w : World) (hS : St w g len st) :
    Calls Tryz.prog 207 #[.pointer (some ⟨g, 0, none⟩)] w (Tree g len w (litP len st)) := by
  have hg : g < w.heap.size := hS.lt
  have HA := hide (fun W (x : Ext w W) => ahead_any len g st 0 0 rfl W (hS.ext x))
  have HN := hide (fun W (x : Ext w W) => next_any len g st W (hS.ext x))
  have HF := hide (fun W (x : Ext w W) => fail_any len g st 10 W (hS.ext x))
  unfold litP
  clear hS
  generalize hdT st.ts 0 = y at *
  by_cases h3 : y.k = 3
  · rw [if_pos h3]
    have k3 : (y.k == 3) = true := by simp [h3]
    clear h3 HF
    go_enter Tryz.func207, Tryz.ntmps207
    go_wp2_with (first
      | (go_at_call 111; refine Calls.mono (unhide HA _ (Ext.alloc _ _)) ?_; rintro e w1 ⟨rfl, hw⟩; have RB := hide (hw.row (Go.heap_alloc_new w _)); have X := hide ((Ext.alloc _ _).trans hw); clear hw)
      | (go_at_call 112; refine Calls.mono (unhide HN _ (unhide X)) ?_; rintro e w2 ⟨rfl, hs, hw⟩; have RC := hw.row (unhide RB) (by omega); have r0 := rowC RC 0 rfl; have r1 := rowC RC 1 rfl; have r2 := rowC RC 2 rfl; have r3 := rowC RC 3 rfl; have r4 := rowC RC 4 rfl; have rz := rowF RC; clear RC; have S2 := hide hs; have Y := hide ((Gr.of (unhide X)).trans hw); clear hw hs))
    exact bodyPost_ret (v := nodV 15 0 emptyB y.n (.slice none 0 0)) (by simp [results, Tryz.results207, go_sem, r0, r1, r2, r3, r4]) rfl (tree_end (l := []) hg (unhide S2) (unhide Y) (Nat.zero_le _) (by simp [RepNL]))
  · rw [if_neg h3]
    have k3 : (y.k == 3) = false := by simp [h3]
    by_cases h4 : y.k = 4
    · rw [if_pos h4]
      have k4 : (y.k == 4) = true := by simp [h4]
      clear h4 HF
      go_enter Tryz.func207, Tryz.ntmps207
      go_wp2_with (first
        | (go_at_call 111; refine Calls.mono (unhide HA _ (Ext.alloc _ _)) ?_; rintro e w1 ⟨rfl, hw⟩; have RB := hide (hw.row (Go.heap_alloc_new w _)); have X := hide ((Ext.alloc _ _).trans hw); clear hw)
        | (go_at_call 112; refine Calls.mono (unhide HN _ (unhide X)) ?_; rintro e w2 ⟨rfl, hs, hw⟩; have RC := hw.row (unhide RB) (by omega); have r0 := rowC RC 0 rfl; have r1 := rowC RC 1 rfl; have r2 := rowC RC 2 rfl; have r3 := rowC RC 3 rfl; have r4 := rowC RC 4 rfl; have rz := rowF RC; clear RC; have S2 := hide hs; have Y := hide ((Gr.of (unhide X)).trans hw); clear hw hs))
      exact bodyPost_ret (v := nodV 16 0 emptyB y.n (.slice none 0 0)) (by simp [results, Tryz.results207, go_sem, r0, r1, r2, r3, r4]) rfl (tree_end (l := []) hg (unhide S2) (unhide Y) (Nat.zero_le _) (by simp [RepNL]))
    · rw [if_neg h4]
      have k4 : (y.k == 4) = false := by simp [h4]
      by_cases h5 : y.k = 5
      · rw [if_pos h5]
        have k5 : (y.k == 5) = true := by simp [h5]
        clear h5 HF
        go_enter Tryz.func207, Tryz.ntmps207
        go_wp2_with (first
          | (go_at_call 111; refine Calls.mono (unhide HA _ (Ext.alloc _ _)) ?_; rintro e w1 ⟨rfl, hw⟩; have RB := hide (hw.row (Go.heap_alloc_new w _)); have X := hide ((Ext.alloc _ _).trans hw); clear hw)
          | (go_at_call 112; refine Calls.mono (unhide HN _ (unhide X)) ?_; rintro e w2 ⟨rfl, hs, hw⟩; have RC := hw.row (unhide RB) (by omega); have r0 := rowC RC 0 rfl; have r1 := rowC RC 1 rfl; have r2 := rowC RC 2 rfl; have r3 := rowC RC 3 rfl; have r4 := rowC RC 4 rfl; have rz := rowF RC; clear RC; have S2 := hide hs; have Y := hide ((Gr.of (unhide X)).trans hw); clear hw hs))
        exact bodyPost_ret (v := nodV 17 0 y.t 0 (.slice none 0 0)) (by simp [results, Tryz.results207, go_sem, r0, r1, r2, r3, r4]) rfl (tree_end (l := []) hg (unhide S2) (unhide Y) (Nat.zero_le _) (by simp [RepNL]))
      · rw [if_neg h5]
        have k5 : (y.k == 5) = false := by simp [h5]
        by_cases h1 : y.k = 1
        · rw [if_pos h1]
          have k1 : (y.k == 1) = true := by simp [h1]
          clear h1 HF
          go_enter Tryz.func207, Tryz.ntmps207
          go_wp2_with (first
            | (go_at_call 111; refine Calls.mono (unhide HA _ (Ext.alloc _ _)) ?_; rintro e w1 ⟨rfl, hw⟩; have RB := hide (hw.row (Go.heap_alloc_new w _)); have X := hide ((Ext.alloc _ _).trans hw); clear hw)
            | (go_at_call 112; refine Calls.mono (unhide HN _ (unhide X)) ?_; rintro e w2 ⟨rfl, hs, hw⟩; have RC := hw.row (unhide RB) (by omega); have r0 := rowC RC 0 rfl; have r1 := rowC RC 1 rfl; have r2 := rowC RC 2 rfl; have r3 := rowC RC 3 rfl; have r4 := rowC RC 4 rfl; have rz := rowF RC; clear RC; have S2 := hide hs; have Y := hide ((Gr.of (unhide X)).trans hw); clear hw hs))
          exact bodyPost_ret (v := nodV 19 0 y.t 0 (.slice none 0 0)) (by simp [results, Tryz.results207, go_sem, r0, r1, r2, r3, r4]) rfl (tree_end (l := []) hg (unhide S2) (unhide Y) (Nat.zero_le _) (by simp [RepNL]))
        · rw [if_neg h1]
          have k1 : (y.k == 1) = false := by simp [h1]
          clear h1 h3 h4 h5 HN
          go_enter Tryz.func207, Tryz.ntmps207
          go_wp2_with (first
            | (go_at_call 111; refine Calls.mono (unhide HA _ (Ext.alloc _ _)) ?_; rintro e w1 ⟨rfl, hw⟩; have RB := hide (hw.row (Go.heap_alloc_new w _)); have X := hide ((Ext.alloc _ _).trans hw); clear hw)
            | (go_at_call 110; refine Calls.mono (unhide HF _ (unhide X)) ?_; rintro e w2 ⟨rfl, hs, hw⟩; have RC := hw.row (unhide RB) (by omega); have r0 := rowC RC 0 rfl; have r1 := rowC RC 1 rfl; have r2 := rowC RC 2 rfl; have r3 := rowC RC 3 rfl; have r4 := rowC RC 4 rfl; have rz := rowF RC; clear RC; have S2 := hide hs; have Y := hide ((Gr.of (unhide X)).trans hw); clear hw hs))
          exact bodyPost_ret (v := nodV 0 0 emptyB 0 (.slice none 0 0)) (by simp [results, Tryz.results207, go_sem, r0, r1, r2, r3, r4]) rfl (tree_end (l := []) hg (unhide S2) (unhide Y) (Nat.zero_le _) (by simp [RepNL]))

end Go.Proofs.YtlgdjeiendmniaaGreatDoor

namespace Go.Proofs.YtlgdjeiendmniaaGreatDoor
open Go.RowKit

/-- A node's cells as an answer that lies in a variable. -/
theorem res_node {fn : Func} {p : Tmp} (h : fn.results = #[.cell p 60]) (tmps : Array Value) (w : World) (b : Nat) (k o : Int) (s : ByteArray) (n : Int) (l : Value) (hp : tmps.getD p undef = .pointer (some ⟨b, 0, none⟩)) (hg : w.heap[b]? = some (nodO k o s n l)) :
    (results fn tmps).run Tryz.prog w = .ok (nodV k o s n l) w :=
  results_cell_row h tmps w b _ _ _ _ hp hg Tryz.underlying60 rfl (by kernel_rfl)

/-- What a reader of trees answers from where st stands. -/
abbrev ExIs (g len : Nat) (f : FuncId) (r : Rdr) (st : PS) (w : World) : Prop := ∀ W, Gr g w W → Rs W g len st → Calls Tryz.prog f #[.pointer (some ⟨g, 0, none⟩)] W (Tree g len W (r st))

theorem Tree.gr {g len : Nat} {w W w5 : World} {p : PN} {st4 st5 : PS} {v : Value} (h : Tree g len w (p, st4) (.returned v) W) (hg : g < w.heap.size) (k : Gr g W w5) (hs : St w5 g len st5) : Tree g len w (p, st5) (.returned v) w5 := by
  obtain ⟨v', e, hr, _, hw⟩ := h
  injection e with e
  subst e
  exact ⟨_, rfl, hr.gr k hg, hs, hw.trans k⟩
theorem RepNL.gr {w w' : World} {g base low : Nat} {l : List PN} {a : Option Addr} (h : RepNL w (Fr base w.heap.size) l a) (k : Gr g w w') (hg : g < base) (hb : low < base) : RepNL w' (fun b => low < b ∧ b < w'.heap.size) l a :=
  RepNL.to (fun b hb => ⟨⟨by have := hb.1; omega, Nat.lt_of_lt_of_le hb.2 k.size⟩, k.block b hb.2 (by have := hb.1; omega)⟩) l a h

set_option maxHeartbeats 2000000 in
theorem inBr_any (len g : Nat) (ex : Rdr) (st : PS) (c : ByteArray) (w : World) (hR : Rs w g len st) (hex : ExIs g len 147 ex (st.enter len).next w) :
    Calls Tryz.prog 201 #[.pointer (some ⟨g, 0, none⟩), .string c] w (Tree g len w (inBrP len ex c st)) := by
  have hg : g < w.heap.size := hR.st.lt
  unfold inBrP
  have HX := hide hex
  clear hex
  unfold ExIs at HX
  generalize ex (st.enter len).next = q at HX
  obtain ⟨⟨k, o, s, n, l⟩, st3⟩ := q
  have HE := hide (fun W (x : St W g len st) => enter_p len g st W x)
  have HN := hide (fun W (x : St W g len (st.enter len)) => next_any len g (st.enter len) W x)
  have HG := hide (fun W (x : St W g len st3) => psign_any len g st3 c W x)
  have HR := hide hR
  clear hR
  go_enter_defers Tryz.func201, Tryz.ntmps201
  go_wp2_with (first
    | (go_at_call 115; refine Calls.mono (unhide HE _ ((unhide HR).st.alloc _)) ?_; rintro e w1 ⟨rfl, hs, hw⟩; have RB := hide (hw.row (Go.heap_alloc_new w _) (by omega)); have S1 := hide hs; have X1 := hide ((Gr.of (Ext.alloc _ _)).trans hw); clear hw hs)
    | (go_at_call 112; refine Calls.mono (unhide HN _ (unhide S1)) ?_; rintro e w2 ⟨rfl, hs, hw⟩; have RC := hide (hw.row (unhide RB) (by omega)); have S2 := hide hs; have X2 := hide ((unhide X1).trans hw); have hlt2 : w.heap.size < w2.heap.size := (Array.getElem?_eq_some_iff.1 (unhide RC)).1; clear hw hs)
    | (go_at_call 147; refine Calls.mono (unhide HX _ (unhide X2) ((unhide HR).go (unhide X2) (unhide S2))) ?_; rintro e w3 ⟨v, rfl, hr, hs, hw⟩; rw [RepN] at hr; obtain ⟨a, cap, rfl, hcap, hl⟩ := hr; have RD := hide (hw.row (unhide RC) (by omega)); have S3 := hide hs; have L3 := hide hl; have X3 := hide ((unhide X2).trans hw); have hlt3 : w2.heap.size ≤ w3.heap.size := hw.size; clear hw hs hl)
    | (go_at_call 77; refine Calls.mono (unhide HG _ ((unhide S3).alloc _)) ?_; rintro e w4 ⟨rfl, hs, hw⟩; have RE := hide (hw.row ((Ext.alloc _ _).row (unhide RD)) (by omega)); have RF := hw.row (Go.heap_alloc_new w3 _) (by omega); have d0 := rowC RF 0 rfl; have d1 := rowC RF 1 rfl; have d2 := rowC RF 2 rfl; have d3 := rowC RF 3 rfl; have d4 := rowC RF 4 rfl; have r0 := rowC (unhide RE) 0 rfl; have r1 := rowC (unhide RE) 1 rfl; have r2 := rowC (unhide RE) 2 rfl; have r3 := rowC (unhide RE) 3 rfl; have r4 := rowC (unhide RE) 4 rfl; have rz := rowF (unhide RE); have S4 := hide hs; have G4 := hide ((Gr.of (Ext.alloc _ _)).trans hw); have X4 := hide ((unhide X3).trans (unhide G4)); clear hw hs RF))
  have T4 := tree_end hg (unhide S4) (unhide X4) hcap ((unhide L3).gr (unhide G4) (by omega) hlt2) (k := k) (o := o) (n := n) (s := s)
  refine leaves_cons (f := 116) (args := #[.pointer (some ⟨g, 0, none⟩)]) (by simp) (by simp [go_sem]) ?_
  refine (leave_p len g _ .returning _ ((unhide S4).set5 hg _ _ _ _ _)).mono ?_
  rintro e u' w5 ⟨rfl, rfl, hs, hw⟩
  exact ⟨_, res_node rfl _ _ w.heap.size k o s n _ rfl (hw.row (set5_row (unhide RE) _ _ _ _ _) (by omega)), T4.gr hg hw hs⟩

end Go.Proofs.YtlgdjeiendmniaaGreatDoor
