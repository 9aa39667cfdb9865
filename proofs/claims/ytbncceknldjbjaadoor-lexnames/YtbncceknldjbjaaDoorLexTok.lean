/- Words: none, one that stands there, a name, an op. -/
import Derived.Test.YtbncceknldjbjaaDoorLexSign
import Derived.Test.YtbncceknldjbjaaDoorShelf
set_option linter.unusedSimpArgs false
set_option maxRecDepth 10000
namespace Go.Proofs.YtbncceknldjbjaaDoor
open Go.RowKit

/-- Memory was made, nothing that stood there has turned. -/
def Ext (w w' : World) : Prop := Below w.heap.size w w'

theorem Ext.refl (w : World) : Ext w w := Below.refl _ _
theorem Ext.trans {a b c : World} (h : Ext a b) (k : Ext b c) : Ext a c := Below.trans h (Below.mono k h.size)
theorem Ext.alloc (w : World) (o : Obj) : Ext w (w.alloc o) := Below.alloc (Below.refl _ _) (Nat.le_refl _) o
theorem Ext.drew {a w : World} (h : Ext a w) : Ext a w.drew := Below.drew h
theorem Ext.le {w w' : World} (h : Ext w w') : w.heap.size ≤ w'.heap.size := h.size
theorem Ext.cell {w w' : World} (h : Ext w w') {a : Addr} {v : Value} (hc : w.cell? a = some v) : w'.cell? a = some v := by
  rw [Below.cell h (World.block_lt_of_cell? w a hc)]; exact hc
theorem Ext.row {w w' : World} (h : Ext w w') {b : Nat} {x : Obj} (hc : w.heap[b]? = some x) : w'.heap[b]? = some x :=
  (h.block b (Array.getElem?_eq_some_iff.1 hc).1).trans hc
theorem Ext.set {a w : World} (h : Ext a w) {p : Addr} (hp : a.heap.size ≤ p.block) (v : Value) : Ext a (w.setCell p v) := Below.setCell h hp v

/-- The four cells of a word's variable. -/
abbrev tokV (k : Int) (t : ByteArray) (n : Int) (o : Int) : Value := .agg #[.int .i64 k, .string t, .int .i64 n, .int .i64 o]
abbrev tokR (k : Int) (t : ByteArray) (n : Int) (o : Int) : Obj := .cells #[.int .i64 k, .string t, .int .i64 n, .int .i64 o] 31 (0, 0)

/-- A variable's four cells, as they stand in every later world. -/
structure Four (w : World) (g : Nat) (k : Int) (t : ByteArray) (n o : Int) : Prop where
  c0 : w.cell? ⟨g, 0, none⟩ = some (.int .i64 k)
  c1 : w.cell? ⟨g, 1, none⟩ = some (.string t)
  c2 : w.cell? ⟨g, 2, none⟩ = some (.int .i64 n)
  c3 : w.cell? ⟨g, 3, none⟩ = some (.int .i64 o)
  fz : ∀ i, w.frozen? ⟨g, i, none⟩ = false

theorem cell_box (w : World) (cs : Array Value) (t : TypeId) (i : Nat) {v : Value} (hi : cs[i]? = some v) : (w.alloc (.cells cs t)).cell? ⟨w.heap.size, i, none⟩ = some v := by
  rw [cell_of_row _ _ i cs t (0, 0) (Go.heap_alloc_new w _)]
  exact hi

theorem Four.new (w : World) (ty : TypeId) (k : Int) (t : ByteArray) (n o : Int) : Four (w.alloc (.cells #[.int .i64 k, .string t, .int .i64 n, .int .i64 o] ty)) w.heap.size k t n o :=
  ⟨cell_box w _ ty 0 rfl, cell_box w _ ty 1 rfl, cell_box w _ ty 2 rfl, cell_box w _ ty 3 rfl, fun i => frozen_of_row _ _ i _ ty (Go.heap_alloc_new w _)⟩

theorem Four.on {w w' : World} {g : Nat} {k : Int} {t : ByteArray} {n o : Int} (h : Four w g k t n o) (e : Ext w w') : Four w' g k t n o :=
  ⟨e.cell h.c0, e.cell h.c1, e.cell h.c2, e.cell h.c3, fun i => (Below.frozen e (p := ⟨g, i, none⟩) (World.block_lt_of_cell? w ⟨g, 0, none⟩ h.c0)).trans (h.fz i)⟩

/-- The four cells of a variable, stored anew. -/
abbrev set4 (w : World) (g : Nat) (k : Int) (t : ByteArray) (n o : Int) : World :=
  (((w.setCell ⟨g, 0, none⟩ (.int .i64 k)).setCell ⟨g, 1, none⟩ (.string t)).setCell ⟨g, 2, none⟩ (.int .i64 n)).setCell ⟨g, 3, none⟩ (.int .i64 o)

theorem set4_ext {w w' : World} (h : Ext w w') (g : Nat) (hg : w.heap.size ≤ g) (k : Int) (t : ByteArray) (n o : Int) : Ext w (set4 w' g k t n o) :=
  (((h.set hg _).set hg _).set hg _).set hg _

theorem none_any (w : World) :
    Calls Tryd.prog 32 #[] w fun e w' => e = .returned (.tuple #[tokV 0 ⟨#[]⟩ 0 0, .int .i64 0, .bool false]) ∧ Ext w w' := by
  go_enter Tryd.func32, Tryd.ntmps32
  go_wp2
  exact bodyPost_ret (v := .tuple #[tokV 0 ⟨#[]⟩ 0 0, .int .i64 0, .bool false]) (by simp [results, Tryd.results32, go_sem]) rfl ⟨rfl, Ext.alloc _ _⟩

theorem clone_any (s : ByteArray) (w : World) (hs : s.size ≤ 140737488355328) :
    Calls Tryd.prog 39 #[.string s] w fun e w' => e = .returned (.string s) ∧ Ext w w' := by
  go_enter Tryd.func39, Tryd.ntmps39
  go_wp2_with (go_at_call 45; refine (Tryd.stringslite_Clone _ _ (by omega)).mono ?_; rintro e w' ⟨rfl, hw⟩; have H := hide hw; clear hw)
  go_ret
  exact ⟨rfl, unhide H⟩

theorem found_any (k : Int) (s : ByteArray) (o e : Nat) (w : World) (h1 : o ≤ e) (h2 : e ≤ s.size) (hs : s.size ≤ 140737488355328) :
    Calls Tryd.prog 34 #[.int .i64 k, .string s, .int .i64 o, .int .i64 e] w fun r w' => r = .returned (.tuple #[tokV k (s.extract o e) 0 o, .int .i64 e, .bool true]) ∧ Ext w w' := by
  have hx : (s.extract o e).size ≤ 140737488355328 := by rw [ByteArray.size_extract]; omega
  have X := hide hx
  clear hx
  go_enter Tryd.func34, Tryd.ntmps34
  go_wp2_with (go_at_call 39; refine (clone_any _ _ (unhide X)).mono ?_; rintro e w1 ⟨rfl, hw⟩; have f4 := (Four.new _ _ _ _ _ _).on hw; have z0 := f4.c0; have z1 := f4.c1; have z2 := f4.c2; have z3 := f4.c3; have zf := f4.fz; have H := hide ((Ext.alloc _ _).trans hw); clear hw f4)
  exact bodyPost_ret (v := .tuple #[tokV k (s.extract o e) 0 o, .int .i64 e, .bool true]) (by simp [results, Tryd.results34, go_sem, z0, z1, z2, z3]) rfl ⟨rfl, set4_ext (unhide H) _ (Nat.le_refl _) _ _ _ _⟩

/-- A call of one of the lexer's readers: it tells a word, or that there is none; memory is made alone. -/
def Tells (f : FuncId) (s : ByteArray) (o : Nat) (w : World) (r : Option (Int × ByteArray × Int × Nat)) : Prop :=
  Calls Tryd.prog f #[.string s, .int .i64 o] w fun e w' => e = .returned (match r with | some (k, t, n, m) => .tuple #[tokV k t n o, .int .i64 m, .bool true] | none => .tuple #[tokV 0 ⟨#[]⟩ 0 0, .int .i64 0, .bool false]) ∧ Ext w w'

/-- The name or word that stands at a place. -/
def nameT (s : ByteArray) (o : Nat) : Option (Int × ByteArray × Int × Nat) :=
  if 16 < run nm ((L s).drop o) then none else some (if wordL (((L s).drop o).take (run nm ((L s).drop o))) then 2 else 1, s.extract o (o + run nm ((L s).drop o)), 0, o + run nm ((L s).drop o))

set_option maxHeartbeats 1000000 in
theorem name_any (s : ByteArray) (o : Nat) (w : World) (ho : o ≤ s.size) (hs : s.size ≤ 140737488355328) : Tells 28 s o w (nameT s o) := by
  unfold Tells nameT
  have hle : run nm ((L s).drop o) ≤ s.size - o := by
    have := run_le nm ((L s).drop o)
    rw [List.length_drop, L_len] at this
    exact this
  have HW : Hd (wordL (L (s.extract o (o + run nm ((L s).drop o)))) = wordL (((L s).drop o).take (run nm ((L s).drop o)))) := by
    rw [L_extract, Nat.add_sub_cancel_left]; exact rfl
  have HP := hide (fun W => past_name s o W ho hs)
  generalize run nm ((L s).drop o) = j at hle HP HW
  by_cases hj : 16 < j
  · rw [if_pos hj]
    clear HW
    go_enter Tryd.func28, Tryd.ntmps28
    go_wp2_with (first
      | (go_at_call 23; refine Calls.mono (unhide HP _) ?_; rintro e w1 ⟨rfl, rfl⟩)
      | (go_at_call 32; refine Calls.mono (none_any _) ?_; rintro e w1 ⟨rfl, hw⟩; have f4 := (Four.new _ _ _ _ _ _).on hw; have z0 := f4.c0; have z1 := f4.c1; have z2 := f4.c2; have z3 := f4.c3; have zf := f4.fz; have H := hide ((Ext.alloc _ _).trans hw); clear hw f4))
    exact bodyPost_ret (v := .tuple #[tokV 0 ⟨#[]⟩ 0 0, .int .i64 0, .bool false]) (by simp [results, Tryd.results28, go_sem, z0, z1, z2, z3]) rfl ⟨rfl, set4_ext (unhide H) _ (Nat.le_refl _) _ _ _ _⟩
  · rw [if_neg hj]
    have HF := hide (fun k W => found_any k s o (o + j) W (by omega) (by omega) hs)
    cases hword : wordL (((L s).drop o).take j)
    all_goals
      rw [hword] at HW
      have HI := hide (fun W => (unhide HW) ▸ isWord_any (s.extract o (o + j)) W)
      clear HW hword
      go_enter Tryd.func28, Tryd.ntmps28
      go_wp2_with (first
        | (go_at_call 23; refine Calls.mono (unhide HP _) ?_; rintro e w1 ⟨rfl, rfl⟩)
        | (go_at_call 33; refine Calls.mono (unhide HI _) ?_; rintro e w1 ⟨rfl, rfl⟩)
        | (go_at_call 34; refine Calls.mono (unhide HF _ _) ?_; rintro e w1 ⟨rfl, hw⟩; have f4 := (Four.new _ _ _ _ _ _).on hw; have z0 := f4.c0; have z1 := f4.c1; have z2 := f4.c2; have z3 := f4.c3; have zf := f4.fz; have H := hide ((Ext.alloc _ _).trans hw); clear hw f4))
      first
        | exact bodyPost_ret (v := .tuple #[tokV 2 (s.extract o (o + j)) 0 o, .int .i64 (o + j), .bool true]) (by simp [results, Tryd.results28, go_sem, z0, z1, z2, z3]) rfl ⟨rfl, set4_ext (unhide H) _ (Nat.le_refl _) _ _ _ _⟩
        | exact bodyPost_ret (v := .tuple #[tokV 1 (s.extract o (o + j)) 0 o, .int .i64 (o + j), .bool true]) (by simp [results, Tryd.results28, go_sem, z0, z1, z2, z3]) rfl ⟨rfl, set4_ext (unhide H) _ (Nat.le_refl _) _ _ _ _⟩

/-- The op that stands at a place. -/
def opT (s : ByteArray) (o : Nat) : Option (Int × ByteArray × Int × Nat) :=
  if opL ((L s).drop o) = 0 then none else some (6, s.extract o (o + opL ((L s).drop o)), 0, o + opL ((L s).drop o))

theorem opL_le (l : List UInt8) : opL l ≤ l.length := by
  have h2 : ∀ t : List UInt8, o2 t = true → t.length = 2 := by
    intro t h
    simp only [o2, Bool.or_eq_true, beq_iff_eq] at h
    rcases h with ((((h | h) | h) | h) | h) | h <;> rw [h] <;> rfl
  have h1 : ∀ t : List UInt8, o1 t = true → t.length = 1 := by
    intro t h
    simp only [o1, Bool.or_eq_true, beq_iff_eq] at h
    rcases h with (((((((((((((((h | h) | h) | h) | h) | h) | h) | h) | h) | h) | h) | h) | h) | h) | h) | h) | h <;> rw [h] <;> rfl
  unfold opL
  split
  · rename_i h
    have := h2 _ h
    rw [List.length_take] at this
    omega
  · split
    · rename_i h
      have := h1 _ h
      rw [List.length_take] at this
      omega
    · exact Nat.zero_le _

theorem tail_size (s : ByteArray) (o : Nat) : (s.extract o s.size).size = s.size - o := by rw [ByteArray.size_extract, Nat.min_self]
theorem tail_L (s : ByteArray) (o : Nat) : L (s.extract o s.size) = (L s).drop o := by
  rw [L_extract]; exact List.take_of_length_le (by rw [List.length_drop, L_len]; exact Nat.le_refl _)

set_option maxHeartbeats 1000000 in
theorem op_any (s : ByteArray) (o : Nat) (w : World) (ho : o < s.size) (hs : s.size ≤ 140737488355328) : Tells 30 s o w (opT s o) := by
  unfold Tells opT
  have hle : opL ((L s).drop o) ≤ s.size - o := by
    have := opL_le ((L s).drop o)
    rw [List.length_drop, L_len] at this
    exact this
  have HP := hide (fun W => opLen_any (s.extract o s.size) W (by rw [tail_size s o]; omega) (by rw [tail_size s o]; omega))
  rw [tail_L] at HP
  generalize opL ((L s).drop o) = j at hle HP
  by_cases hj : j = 0
  · subst hj
    rw [if_pos rfl]
    go_enter Tryd.func30, Tryd.ntmps30
    go_wp2_with (first
      | (go_at_call 36; refine Calls.mono (unhide HP _) ?_; rintro e w1 ⟨rfl, rfl⟩)
      | (go_at_call 32; refine Calls.mono (none_any _) ?_; rintro e w1 ⟨rfl, hw⟩; have f4 := (Four.new _ _ _ _ _ _).on hw; have z0 := f4.c0; have z1 := f4.c1; have z2 := f4.c2; have z3 := f4.c3; have zf := f4.fz; have H := hide ((Ext.alloc _ _).trans hw); clear hw f4))
    exact bodyPost_ret (v := .tuple #[tokV 0 ⟨#[]⟩ 0 0, .int .i64 0, .bool false]) (by simp [results, Tryd.results30, go_sem, z0, z1, z2, z3]) rfl ⟨rfl, set4_ext (unhide H) _ (Nat.le_refl _) _ _ _ _⟩
  · rw [if_neg hj]
    have hj' : ((j : Int) == 0) = false := by simp; omega
    have HF := hide (fun k W => found_any k s o (o + j) W (by omega) (by omega) hs)
    go_enter Tryd.func30, Tryd.ntmps30
    go_wp2_with (first
      | (go_at_call 36; refine Calls.mono (unhide HP _) ?_; rintro e w1 ⟨rfl, rfl⟩)
      | (go_at_call 34; refine Calls.mono (unhide HF _ _) ?_; rintro e w1 ⟨rfl, hw⟩; have f4 := (Four.new _ _ _ _ _ _).on hw; have z0 := f4.c0; have z1 := f4.c1; have z2 := f4.c2; have z3 := f4.c3; have zf := f4.fz; have H := hide ((Ext.alloc _ _).trans hw); clear hw f4))
    exact bodyPost_ret (v := .tuple #[tokV 6 (s.extract o (o + j)) 0 o, .int .i64 (o + j), .bool true]) (by simp [results, Tryd.results30, go_sem, z0, z1, z2, z3]) rfl ⟨rfl, set4_ext (unhide H) _ (Nat.le_refl _) _ _ _ _⟩

end Go.Proofs.YtbncceknldjbjaaDoor
