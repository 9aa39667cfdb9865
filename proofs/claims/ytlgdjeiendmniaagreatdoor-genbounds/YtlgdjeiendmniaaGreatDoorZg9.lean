/- Words: none, one that stands there, a name, an op. · Words of digits, perhaps with an i behind them. · Words between quotes. · The word at a place; all words of a text. -/
import Derived.Test.YtlgdjeiendmniaaGreatDoorZg8
import Derived.Test.YtlgdjeiendmniaaGreatDoorShelf
import Derived.Lib.ConvBytes
import Derived.OwnWalk
import Derived.Laws.BytesString
set_option linter.unusedSimpArgs false
set_option maxRecDepth 10000
set_option linter.unusedVariables false

namespace Go.Proofs.YtlgdjeiendmniaaGreatDoor
open Go.RowKit

/-- Memory was made, nothing that stood there has turned. -/
def Ext (w w' : World) : Prop := Below w.heap.size w w'

theorem Ext.refl (w : World) : Ext w w := Below.refl _ _
theorem Ext.trans {a b c : World} (h : Ext a b) (k : Ext b c) : Ext a c := Below.trans h (Below.mono k h.size)
theorem Ext.alloc (w : World) (o : Obj) : Ext w (w.alloc o) := Below.alloc (Below.refl _ _) (Nat.le_refl _) o
theorem Ext.drew {a w : World} (h : Ext a w) : Ext a w.drew := Below.drew h
theorem Ext.le {w w' : World} (h : Ext w w') : w.heap.size ≤ w'.heap.size := h.size
theorem Ext.cell {w w' : World} (h : Ext w w') {a : Addr} {v : Value} (hc : w.cell? a = some v) : w'.cell? a = some v := by
  rw [Below.cell h (World.block_lt_of_cell? w a hc)]; exact hc
theorem Ext.row {w w' : World} (h : Ext w w') {b : Nat} {x : Obj} (hc : w.heap[b]? = some x) : w'.heap[b]? = some x :=
  (h.block b (Array.getElem?_eq_some_iff.1 hc).1).trans hc
theorem Ext.set {a w : World} (h : Ext a w) {p : Addr} (hp : a.heap.size ≤ p.block) (v : Value) : Ext a (w.setCell p v) := Below.setCell h hp v

/-- The four cells of a word's variable. -/
abbrev tokV (k : Int) (t : ByteArray) (n : Int) (o : Int) : Value := .agg #[.int .i64 k, .string t, .int .i64 n, .int .i64 o]
abbrev tokR (k : Int) (t : ByteArray) (n : Int) (o : Int) : Obj := .cells #[.int .i64 k, .string t, .int .i64 n, .int .i64 o] 138 (0, 0)

/-- A variable's four cells, as they stand in every later world. -/
structure Four (w : World) (g : Nat) (k : Int) (t : ByteArray) (n o : Int) : Prop where
  c0 : w.cell? ⟨g, 0, none⟩ = some (.int .i64 k)
  c1 : w.cell? ⟨g, 1, none⟩ = some (.string t)
  c2 : w.cell? ⟨g, 2, none⟩ = some (.int .i64 n)
  c3 : w.cell? ⟨g, 3, none⟩ = some (.int .i64 o)
  fz : ∀ i, w.frozen? ⟨g, i, none⟩ = false

theorem cell_box (w : World) (cs : Array Value) (t : TypeId) (i : Nat) {v : Value} (hi : cs[i]? = some v) : (w.alloc (.cells cs t)).cell? ⟨w.heap.size, i, none⟩ = some v := by
  rw [cell_of_row _ _ i cs t (0, 0) (Go.heap_alloc_new w _)]
  exact hi

theorem Four.new (w : World) (ty : TypeId) (k : Int) (t : ByteArray) (n o : Int) : Four (w.alloc (.cells #[.int .i64 k, .string t, .int .i64 n, .int .i64 o] ty)) w.heap.size k t n o :=
  ⟨cell_box w _ ty 0 rfl, cell_box w _ ty 1 rfl, cell_box w _ ty 2 rfl, cell_box w _ ty 3 rfl, fun i => frozen_of_row _ _ i _ ty (Go.heap_alloc_new w _)⟩

theorem Four.on {w w' : World} {g : Nat} {k : Int} {t : ByteArray} {n o : Int} (h : Four w g k t n o) (e : Ext w w') : Four w' g k t n o :=
  ⟨e.cell h.c0, e.cell h.c1, e.cell h.c2, e.cell h.c3, fun i => (Below.frozen e (p := ⟨g, i, none⟩) (World.block_lt_of_cell? w ⟨g, 0, none⟩ h.c0)).trans (h.fz i)⟩

/-- The four cells of a variable, stored anew. -/
abbrev set4 (w : World) (g : Nat) (k : Int) (t : ByteArray) (n o : Int) : World :=
  (((w.setCell ⟨g, 0, none⟩ (.int .i64 k)).setCell ⟨g, 1, none⟩ (.string t)).setCell ⟨g, 2, none⟩ (.int .i64 n)).setCell ⟨g, 3, none⟩ (.int .i64 o)

theorem set4_ext {w w' : World} (h : Ext w w') (g : Nat) (hg : w.heap.size ≤ g) (k : Int) (t : ByteArray) (n o : Int) : Ext w (set4 w' g k t n o) :=
  (((h.set hg _).set hg _).set hg _).set hg _

theorem none_any (w : World) :
    Calls Tryz.prog 136 #[] w fun e w' => e = .returned (.tuple #[tokV 0 ⟨#[]⟩ 0 0, .int .i64 0, .bool false]) ∧ Ext w w' := by
  go_enter Tryz.func136, Tryz.ntmps136
  go_wp2
  exact bodyPost_ret (v := .tuple #[tokV 0 ⟨#[]⟩ 0 0, .int .i64 0, .bool false]) (by simp [results, Tryz.results136, go_sem]) rfl ⟨rfl, Ext.alloc _ _⟩

theorem clone_any (s : ByteArray) (w : World) (hs : s.size ≤ 140737488355328) :
    Calls Tryz.prog 38 #[.string s] w fun e w' => e = .returned (.string s) ∧ Ext w w' := by
  go_enter Tryz.func38, Tryz.ntmps38
  go_wp2_with (go_at_call 66; refine (Tryz.stringslite_Clone _ _ (by omega)).mono ?_; rintro e w' ⟨rfl, hw⟩; have H := hide hw; clear hw)
  go_ret
  exact ⟨rfl, unhide H⟩

theorem found_any (k : Int) (s : ByteArray) (o e : Nat) (w : World) (h1 : o ≤ e) (h2 : e ≤ s.size) (hs : s.size ≤ 140737488355328) :
    Calls Tryz.prog 138 #[.int .i64 k, .string s, .int .i64 o, .int .i64 e] w fun r w' => r = .returned (.tuple #[tokV k (s.extract o e) 0 o, .int .i64 e, .bool true]) ∧ Ext w w' := by
  have hx : (s.extract o e).size ≤ 140737488355328 := by rw [ByteArray.size_extract]; omega
  have X := hide hx
  clear hx
  go_enter Tryz.func138, Tryz.ntmps138
  go_wp2_with (go_at_call 38; refine (clone_any _ _ (unhide X)).mono ?_; rintro e w1 ⟨rfl, hw⟩; have f4 := (Four.new _ _ _ _ _ _).on hw; have z0 := f4.c0; have z1 := f4.c1; have z2 := f4.c2; have z3 := f4.c3; have zf := f4.fz; have H := hide ((Ext.alloc _ _).trans hw); clear hw f4)
  exact bodyPost_ret (v := .tuple #[tokV k (s.extract o e) 0 o, .int .i64 e, .bool true]) (by simp [results, Tryz.results138, go_sem, z0, z1, z2, z3]) rfl ⟨rfl, set4_ext (unhide H) _ (Nat.le_refl _) _ _ _ _⟩

/-- A call of one of the lexer's readers: it tells a word, or that there is none; memory is made alone. -/
def Tells (f : FuncId) (s : ByteArray) (o : Nat) (w : World) (r : Option (Int × ByteArray × Int × Nat)) : Prop :=
  Calls Tryz.prog f #[.string s, .int .i64 o] w fun e w' => e = .returned (match r with | some (k, t, n, m) => .tuple #[tokV k t n o, .int .i64 m, .bool true] | none => .tuple #[tokV 0 ⟨#[]⟩ 0 0, .int .i64 0, .bool false]) ∧ Ext w w'

/-- The name or word that stands at a place. -/
def nameT (s : ByteArray) (o : Nat) : Option (Int × ByteArray × Int × Nat) :=
  if 16 < run nm ((L s).drop o) then none else some (if wordL (((L s).drop o).take (run nm ((L s).drop o))) then 2 else 1, s.extract o (o + run nm ((L s).drop o)), 0, o + run nm ((L s).drop o))

set_option maxHeartbeats 1000000 in
theorem name_any (s : ByteArray) (o : Nat) (w : World) (ho : o ≤ s.size) (hs : s.size ≤ 140737488355328) : Tells 106 s o w (nameT s o) := by
  unfold Tells nameT
  have hle : run nm ((L s).drop o) ≤ s.size - o := by
    have := run_le nm ((L s).drop o)
    rw [List.length_drop, L_len] at this
    exact this
  have HW : Hd (wordL (L (s.extract o (o + run nm ((L s).drop o)))) = wordL (((L s).drop o).take (run nm ((L s).drop o)))) := by
    rw [L_extract, Nat.add_sub_cancel_left]; exact rfl
  have HP := hide (fun W => past_name s o W ho hs)
  generalize run nm ((L s).drop o) = j at hle HP HW
  by_cases hj : 16 < j
  · rw [if_pos hj]
    clear HW
    go_enter Tryz.func106, Tryz.ntmps106
    go_wp2_with (first
      | (go_at_call 101; refine Calls.mono (unhide HP _) ?_; rintro e w1 ⟨rfl, rfl⟩)
      | (go_at_call 136; refine Calls.mono (none_any _) ?_; rintro e w1 ⟨rfl, hw⟩; have f4 := (Four.new _ _ _ _ _ _).on hw; have z0 := f4.c0; have z1 := f4.c1; have z2 := f4.c2; have z3 := f4.c3; have zf := f4.fz; have H := hide ((Ext.alloc _ _).trans hw); clear hw f4))
    exact bodyPost_ret (v := .tuple #[tokV 0 ⟨#[]⟩ 0 0, .int .i64 0, .bool false]) (by simp [results, Tryz.results106, go_sem, z0, z1, z2, z3]) rfl ⟨rfl, set4_ext (unhide H) _ (Nat.le_refl _) _ _ _ _⟩
  · rw [if_neg hj]
    have HF := hide (fun k W => found_any k s o (o + j) W (by omega) (by omega) hs)
    cases hword : wordL (((L s).drop o).take j)
    all_goals
      rw [hword] at HW
      have HI := hide (fun W => (unhide HW) ▸ isWord_any (s.extract o (o + j)) W)
      clear HW hword
      go_enter Tryz.func106, Tryz.ntmps106
      go_wp2_with (first
        | (go_at_call 101; refine Calls.mono (unhide HP _) ?_; rintro e w1 ⟨rfl, rfl⟩)
        | (go_at_call 137; refine Calls.mono (unhide HI _) ?_; rintro e w1 ⟨rfl, rfl⟩)
        | (go_at_call 138; refine Calls.mono (unhide HF _ _) ?_; rintro e w1 ⟨rfl, hw⟩; have f4 := (Four.new _ _ _ _ _ _).on hw; have z0 := f4.c0; have z1 := f4.c1; have z2 := f4.c2; have z3 := f4.c3; have zf := f4.fz; have H := hide ((Ext.alloc _ _).trans hw); clear hw f4))
      first
        | exact bodyPost_ret (v := .tuple #[tokV 2 (s.extract o (o + j)) 0 o, .int .i64 (o + j), .bool true]) (by simp [results, Tryz.results106, go_sem, z0, z1, z2, z3]) rfl ⟨rfl, set4_ext (unhide H) _ (Nat.le_refl _) _ _ _ _⟩
        | exact bodyPost_ret (v := .tuple #[tokV 1 (s.extract o (o + j)) 0 o, .int .i64 (o + j), .bool true]) (by simp [results, Tryz.results106, go_sem, z0, z1, z2, z3]) rfl ⟨rfl, set4_ext (unhide H) _ (Nat.le_refl _) _ _ _ _⟩

/-- The op that stands at a place. -/
def opT (s : ByteArray) (o : Nat) : Option (Int × ByteArray × Int × Nat) :=
  if opL ((L s).drop o) = 0 then none else some (6, s.extract o (o + opL ((L s).drop o)), 0, o + opL ((L s).drop o))

theorem opL_le (l : List UInt8) : opL l ≤ l.length := by
  have h2 : ∀ t : List UInt8, o2 t = true → t.length = 2 := by
    intro t h
    simp only [o2, Bool.or_eq_true, beq_iff_eq] at h
    rcases h with ((((h | h) | h) | h) | h) | h <;> rw [h] <;> rfl
  have h1 : ∀ t : List UInt8, o1 t = true → t.length = 1 := by
    intro t h
    simp only [o1, Bool.or_eq_true, beq_iff_eq] at h
    rcases h with (((((((((((((((h | h) | h) | h) | h) | h) | h) | h) | h) | h) | h) | h) | h) | h) | h) | h) | h <;> rw [h] <;> rfl
  unfold opL
  split
  · rename_i h
    have := h2 _ h
    rw [List.length_take] at this
    omega
  · split
    · rename_i h
      have := h1 _ h
      rw [List.length_take] at this
      omega
    · exact Nat.zero_le _

theorem tail_size (s : ByteArray) (o : Nat) : (s.extract o s.size).size = s.size - o := by rw [ByteArray.size_extract, Nat.min_self]
theorem tail_L (s : ByteArray) (o : Nat) : L (s.extract o s.size) = (L s).drop o := by
  rw [L_extract]; exact List.take_of_length_le (by rw [List.length_drop, L_len]; exact Nat.le_refl _)

set_option maxHeartbeats 1000000 in
theorem op_any (s : ByteArray) (o : Nat) (w : World) (ho : o < s.size) (hs : s.size ≤ 140737488355328) : Tells 108 s o w (opT s o) := by
  unfold Tells opT
  have hle : opL ((L s).drop o) ≤ s.size - o := by
    have := opL_le ((L s).drop o)
    rw [List.length_drop, L_len] at this
    exact this
  have HP := hide (fun W => opLen_any (s.extract o s.size) W (by rw [tail_size s o]; omega) (by rw [tail_size s o]; omega))
  rw [tail_L] at HP
  generalize opL ((L s).drop o) = j at hle HP
  by_cases hj : j = 0
  · subst hj
    rw [if_pos rfl]
    go_enter Tryz.func108, Tryz.ntmps108
    go_wp2_with (first
      | (go_at_call 140; refine Calls.mono (unhide HP _) ?_; rintro e w1 ⟨rfl, rfl⟩)
      | (go_at_call 136; refine Calls.mono (none_any _) ?_; rintro e w1 ⟨rfl, hw⟩; have f4 := (Four.new _ _ _ _ _ _).on hw; have z0 := f4.c0; have z1 := f4.c1; have z2 := f4.c2; have z3 := f4.c3; have zf := f4.fz; have H := hide ((Ext.alloc _ _).trans hw); clear hw f4))
    exact bodyPost_ret (v := .tuple #[tokV 0 ⟨#[]⟩ 0 0, .int .i64 0, .bool false]) (by simp [results, Tryz.results108, go_sem, z0, z1, z2, z3]) rfl ⟨rfl, set4_ext (unhide H) _ (Nat.le_refl _) _ _ _ _⟩
  · rw [if_neg hj]
    have hj' : ((j : Int) == 0) = false := by simp; omega
    have HF := hide (fun k W => found_any k s o (o + j) W (by omega) (by omega) hs)
    go_enter Tryz.func108, Tryz.ntmps108
    go_wp2_with (first
      | (go_at_call 140; refine Calls.mono (unhide HP _) ?_; rintro e w1 ⟨rfl, rfl⟩)
      | (go_at_call 138; refine Calls.mono (unhide HF _ _) ?_; rintro e w1 ⟨rfl, hw⟩; have f4 := (Four.new _ _ _ _ _ _).on hw; have z0 := f4.c0; have z1 := f4.c1; have z2 := f4.c2; have z3 := f4.c3; have zf := f4.fz; have H := hide ((Ext.alloc _ _).trans hw); clear hw f4))
    exact bodyPost_ret (v := .tuple #[tokV 6 (s.extract o (o + j)) 0 o, .int .i64 (o + j), .bool true]) (by simp [results, Tryz.results108, go_sem, z0, z1, z2, z3]) rfl ⟨rfl, set4_ext (unhide H) _ (Nat.le_refl _) _ _ _ _⟩

end Go.Proofs.YtlgdjeiendmniaaGreatDoor

namespace Go.Proofs.YtlgdjeiendmniaaGreatDoor
open Go.RowKit

/-- The variable ErrRange holds an error. -/
def Er (w : World) : Prop := ∃ (te : TypeId) (pe : Value), w.cell? ⟨5, 0, none⟩ = some (.iface te pe)
theorem Er.on {w w' : World} (h : Er w) (e : Ext w w') : Er w' := by
  obtain ⟨te, pe, hc⟩ := h
  exact ⟨te, pe, e.cell hc⟩

theorem ext_parse {w w' : World} {e : TypeId} (h : w' = w ∨ ∃ t, w' = Lib.bytesWorld w e t) : Ext w w' := by
  rcases h with rfl | ⟨t, rfl⟩
  · exact Ext.refl _
  · exact Lib.bytesWorld_below _ _ _

/-- The number that stands at a place: how many digits, what they spell, whether an i stands behind them. -/
def nd (s : ByteArray) (o : Nat) : Nat := run dg ((L s).drop o)
def nv (s : ByteArray) (o : Nat) : Nat := dv 0 (((L s).drop o).take (nd s o))
def isI (s : ByteArray) (k : Nat) : Bool := (L s)[k]? == some 105
def nmAt (s : ByteArray) (k : Nat) : Bool := ((L s)[k]?.map nm).getD false
def numT (s : ByteArray) (o : Nat) : Option (Int × ByteArray × Int × Nat) :=
  if 9223372036854775807 < nv s o then none
  else if isI s (o + nd s o) then (if nmAt s (o + nd s o + 1) then none else some (4, ⟨#[]⟩, nv s o, o + nd s o + 1))
  else (if nmAt s (o + nd s o) then none else some (3, ⟨#[]⟩, nv s o, o + nd s o))

theorem isI_end (s : ByteArray) (k : Nat) (h : s.size ≤ k) : isI s k = false := by
  unfold isI; rw [List.getElem?_eq_none (by rw [L_len]; exact h)]; rfl
theorem nmAt_end (s : ByteArray) (k : Nat) (h : s.size ≤ k) : nmAt s k = false := by
  unfold nmAt; rw [List.getElem?_eq_none (by rw [L_len]; exact h)]; rfl
theorem nmAt_at (s : ByteArray) (k : Nat) (h : k < s.size) : nmAt s k = nm s[k] := by
  unfold nmAt; rw [L_get s k h]; rfl
theorem isI_at (s : ByteArray) (k : Nat) (h : k < s.size) : isI s k = ((s[k].toNat : Int) == 105) := by
  unfold isI
  rw [L_get s k h, Bool.eq_iff_iff]
  simp only [beq_iff_eq, Option.some.injEq]
  refine ⟨fun e => by rw [e]; rfl, fun e => ?_⟩
  apply UInt8.toNat.inj
  show _ = 105
  omega

theorem nd_le (s : ByteArray) (o : Nat) : nd s o ≤ s.size - o := by
  have := run_le dg ((L s).drop o)
  rw [List.length_drop, L_len] at this
  exact this

theorem num_digits (s : ByteArray) (o : Nat) (ho : o < s.size) (hd : dg s[o] = true) : 1 ≤ nd s o ∧
    Lib.parseIntB 64 (s.extract o (o + nd s o)).data.toList = if nv s o ≤ 9223372036854775807 then .ok (nv s o : Int) else .range := by
  have h1 : 1 ≤ nd s o := by unfold nd; rw [L_drop s o ho]; exact run_pos hd
  refine ⟨h1, ?_⟩
  show Lib.parseIntB 64 (L (s.extract o (o + nd s o))) = _
  rw [L_extract, Nat.add_sub_cancel_left]
  refine parse_digits _ ?_ (run_take _)
  intro h
  have hl := congrArg List.length h
  rw [List.length_take, List.length_drop, L_len] at hl
  simp at hl
  omega

set_option maxHeartbeats 1000000 in
theorem number_range (s : ByteArray) (o : Nat) (w : World) (ho : o < s.size) (hs : s.size ≤ 140737488355328) (hd : dg s[o] = true) (he : Er w) (hr : 9223372036854775807 < nv s o) : Tells 104 s o w none := by
  unfold Tells
  obtain ⟨h1, hp⟩ := num_digits s o ho hd
  rw [if_neg (by omega)] at hp
  obtain ⟨te, pe, hc⟩ := he
  have hle := nd_le s o
  have HP := hide (fun W => past_digit s o W (by omega) hs)
  have HE : Hd (∀ W, run dg ((L s).drop o) = nd s o ∧ (Ext w W → W.cell? ⟨5, 0, none⟩ = some (.iface te pe))) := fun W => ⟨rfl, fun e => e.cell hc⟩
  have HQ := hide (fun W e => Tryz.strconv_ParseInt_10_at64_range (s.extract o (o + nd s o)) (by rw [ByteArray.size_extract]; omega) hp (.iface te pe) W ((unhide HE W).2 e) (Or.inr ⟨te, pe, rfl⟩))
  have HP : Hd (∀ W, Calls Tryz.prog 101 #[.string s, .int .i64 o, fnV 103] W fun e w' => e = .returned (.int .i64 ((o + nd s o : Nat) : Int)) ∧ w' = W) := unhide HP
  clear HE hp hr hc hd
  generalize nd s o = j at h1 hle HP HQ
  go_enter Tryz.func104, Tryz.ntmps104
  go_wp2_with (first
    | (go_at_call 101; refine Calls.mono (unhide HP _) ?_; rintro e w1 ⟨rfl, rfl⟩)
    | (go_at_call 135; refine Calls.mono (unhide HQ _ (Ext.alloc _ _)) ?_; rintro e w1 ⟨N, rfl, -, -, hw⟩; have F1 := hide ((Four.new _ _ _ _ _ _).on hw); have H1 := hide ((Ext.alloc _ _).trans hw); clear hw)
    | (go_at_call 136; refine Calls.mono (none_any _) ?_; rintro e w2 ⟨rfl, hw⟩; have f4 := (unhide F1).on hw; have z0 := f4.c0; have z1 := f4.c1; have z2 := f4.c2; have z3 := f4.c3; have zf := f4.fz; have H := hide ((unhide H1).trans hw); clear hw f4))
  exact bodyPost_ret (v := .tuple #[tokV 0 ⟨#[]⟩ 0 0, .int .i64 0, .bool false]) (by simp [results, Tryz.results104, go_sem, z0, z1, z2, z3]) rfl ⟨rfl, set4_ext (unhide H) _ (Nat.le_refl _) _ _ _ _⟩

set_option maxHeartbeats 2000000 in
theorem number_end (s : ByteArray) (o j : Nat) (v : Int) (w : World) (hs : s.size ≤ 140737488355328) (hle : j ≤ s.size - o) (ho : o < s.size)
    (HP : Hd (∀ W, Calls Tryz.prog 101 #[.string s, .int .i64 o, fnV 103] W fun e w' => e = .returned (.int .i64 ((o + j : Nat) : Int)) ∧ w' = W))
    (HQ : Hd (∀ W, Calls Tryz.prog 135 #[.string (s.extract o (o + j)), .int .i64 10, .int .i64 64] W fun e w' => e = .returned (.tuple #[.int .i64 v, .nilIface]) ∧ (w' = W ∨ ∃ t, w' = Lib.bytesWorld W 5 t)))
    (hj : s.size ≤ o + j) : Tells 104 s o w (some (3, ⟨#[]⟩, v, o + j)) := by
  unfold Tells
  have e1 : decide ((o : Int) + j < s.size) = false := decide_eq_false (by omega)
  go_enter Tryz.func104, Tryz.ntmps104
  go_wp2_with (first
    | (go_at_call 101; refine Calls.mono (unhide HP _) ?_; rintro e w1 ⟨rfl, rfl⟩)
    | (go_at_call 135; refine Calls.mono (unhide HQ _) ?_; rintro e w1 ⟨rfl, hw1⟩; have hw := ext_parse hw1; have f4 := (Four.new _ _ _ _ _ _).on hw; have z0 := f4.c0; have z1 := f4.c1; have z2 := f4.c2; have z3 := f4.c3; have zf := f4.fz; have hz : w.heap.size < w1.heap.size := World.block_lt_of_cell? w1 ⟨w.heap.size, 0, none⟩ f4.c0; have F1 := hide f4; have H := hide ((Ext.alloc _ _).trans hw); clear hw hw1 f4))
  exact bodyPost_ret (v := .tuple #[tokV 3 ⟨#[]⟩ v o, .int .i64 (o + j), .bool true]) (by simp [results, Tryz.results104, go_sem, z0, z1, z2, z3, hz, Nat.ne_of_lt hz]) rfl ⟨rfl, (set4_ext (unhide H) _ (Nat.le_refl _) _ _ _ _).trans (Ext.alloc _ _)⟩

set_option maxHeartbeats 2000000 in
theorem number_plain_no (s : ByteArray) (o j : Nat) (v : Int) (w : World) (hs : s.size ≤ 140737488355328) (hle : j ≤ s.size - o) (ho : o < s.size)
    (HP : Hd (∀ W, Calls Tryz.prog 101 #[.string s, .int .i64 o, fnV 103] W fun e w' => e = .returned (.int .i64 ((o + j : Nat) : Int)) ∧ w' = W))
    (HQ : Hd (∀ W, Calls Tryz.prog 135 #[.string (s.extract o (o + j)), .int .i64 10, .int .i64 64] W fun e w' => e = .returned (.tuple #[.int .i64 v, .nilIface]) ∧ (w' = W ∨ ∃ t, w' = Lib.bytesWorld W 5 t)))
    (hj : o + j < s.size) (hi : ((s[o + j].toNat : Int) == 105) = false) (hn : nm s[o + j] = true) : Tells 104 s o w (none) := by
  unfold Tells
  go_enter Tryz.func104, Tryz.ntmps104
  go_wp2_with (first
    | (go_at_call 101; refine Calls.mono (unhide HP _) ?_; rintro e w1 ⟨rfl, rfl⟩)
    | (go_at_call 135; refine Calls.mono (unhide HQ _) ?_; rintro e w1 ⟨rfl, hw1⟩; have hw := ext_parse hw1; have f4 := (Four.new _ _ _ _ _ _).on hw; have z0 := f4.c0; have z1 := f4.c1; have z2 := f4.c2; have z3 := f4.c3; have zf := f4.fz; have hz : w.heap.size < w1.heap.size := World.block_lt_of_cell? w1 ⟨w.heap.size, 0, none⟩ f4.c0; have F1 := hide f4; have H := hide ((Ext.alloc _ _).trans hw); clear hw hw1 f4)
    | (go_at_call 105; refine Calls.mono (inName_any _ _) ?_; rintro e w2 ⟨rfl, rfl⟩)
    | (go_at_call 136; refine Calls.mono (none_any _) ?_; rintro e w2 ⟨rfl, hw⟩; have f4 := (unhide F1).on (((Ext.alloc _ _)).trans hw); clear z0 z1 z2 z3 zf; have z0 := f4.c0; have z1 := f4.c1; have z2 := f4.c2; have z3 := f4.c3; have zf := f4.fz; have H2 := hide ((unhide H).trans (((Ext.alloc _ _)).trans hw)); clear hw f4))
  exact bodyPost_ret (v := .tuple #[tokV 0 ⟨#[]⟩ 0 0, .int .i64 0, .bool false]) (by simp [results, Tryz.results104, go_sem, z0, z1, z2, z3]) rfl ⟨rfl, set4_ext (unhide H2) _ (Nat.le_refl _) _ _ _ _⟩

set_option maxHeartbeats 2000000 in
theorem number_plain_yes (s : ByteArray) (o j : Nat) (v : Int) (w : World) (hs : s.size ≤ 140737488355328) (hle : j ≤ s.size - o) (ho : o < s.size)
    (HP : Hd (∀ W, Calls Tryz.prog 101 #[.string s, .int .i64 o, fnV 103] W fun e w' => e = .returned (.int .i64 ((o + j : Nat) : Int)) ∧ w' = W))
    (HQ : Hd (∀ W, Calls Tryz.prog 135 #[.string (s.extract o (o + j)), .int .i64 10, .int .i64 64] W fun e w' => e = .returned (.tuple #[.int .i64 v, .nilIface]) ∧ (w' = W ∨ ∃ t, w' = Lib.bytesWorld W 5 t)))
    (hj : o + j < s.size) (hi : ((s[o + j].toNat : Int) == 105) = false) (hn : nm s[o + j] = false) : Tells 104 s o w (some (3, ⟨#[]⟩, v, o + j)) := by
  unfold Tells
  go_enter Tryz.func104, Tryz.ntmps104
  go_wp2_with (first
    | (go_at_call 101; refine Calls.mono (unhide HP _) ?_; rintro e w1 ⟨rfl, rfl⟩)
    | (go_at_call 135; refine Calls.mono (unhide HQ _) ?_; rintro e w1 ⟨rfl, hw1⟩; have hw := ext_parse hw1; have f4 := (Four.new _ _ _ _ _ _).on hw; have z0 := f4.c0; have z1 := f4.c1; have z2 := f4.c2; have z3 := f4.c3; have zf := f4.fz; have hz : w.heap.size < w1.heap.size := World.block_lt_of_cell? w1 ⟨w.heap.size, 0, none⟩ f4.c0; have F1 := hide f4; have H := hide ((Ext.alloc _ _).trans hw); clear hw hw1 f4)
    | (go_at_call 105; refine Calls.mono (inName_any _ _) ?_; rintro e w2 ⟨rfl, rfl⟩))
  exact bodyPost_ret (v := .tuple #[tokV 3 ⟨#[]⟩ v o, .int .i64 (o + j), .bool true]) (by simp [results, Tryz.results104, go_sem, z0, z1, z2, z3, hz, Nat.ne_of_lt hz]) rfl ⟨rfl, (set4_ext (unhide H) _ (Nat.le_refl _) _ _ _ _).trans (Ext.alloc _ _)⟩

set_option maxHeartbeats 2000000 in
theorem number_imag_end (s : ByteArray) (o j : Nat) (v : Int) (w : World) (hs : s.size ≤ 140737488355328) (hle : j ≤ s.size - o) (ho : o < s.size)
    (HP : Hd (∀ W, Calls Tryz.prog 101 #[.string s, .int .i64 o, fnV 103] W fun e w' => e = .returned (.int .i64 ((o + j : Nat) : Int)) ∧ w' = W))
    (HQ : Hd (∀ W, Calls Tryz.prog 135 #[.string (s.extract o (o + j)), .int .i64 10, .int .i64 64] W fun e w' => e = .returned (.tuple #[.int .i64 v, .nilIface]) ∧ (w' = W ∨ ∃ t, w' = Lib.bytesWorld W 5 t)))
    (hj : o + j < s.size) (hi : ((s[o + j].toNat : Int) == 105) = true) (hk : s.size ≤ o + j + 1) : Tells 104 s o w (some (4, ⟨#[]⟩, v, o + j + 1)) := by
  unfold Tells
  have e1 : decide ((o : Int) + j + 1 < s.size) = false := decide_eq_false (by omega)
  go_enter Tryz.func104, Tryz.ntmps104
  go_wp2_with (first
    | (go_at_call 101; refine Calls.mono (unhide HP _) ?_; rintro e w1 ⟨rfl, rfl⟩)
    | (go_at_call 135; refine Calls.mono (unhide HQ _) ?_; rintro e w1 ⟨rfl, hw1⟩; have hw := ext_parse hw1; have f4 := (Four.new _ _ _ _ _ _).on hw; have z0 := f4.c0; have z1 := f4.c1; have z2 := f4.c2; have z3 := f4.c3; have zf := f4.fz; have hz : w.heap.size < w1.heap.size := World.block_lt_of_cell? w1 ⟨w.heap.size, 0, none⟩ f4.c0; have F1 := hide f4; have H := hide ((Ext.alloc _ _).trans hw); clear hw hw1 f4))
  exact bodyPost_ret (v := .tuple #[tokV 4 ⟨#[]⟩ v o, .int .i64 (o + j + 1), .bool true]) (by simp [results, Tryz.results104, go_sem, z0, z1, z2, z3, hz, Nat.ne_of_lt hz]) rfl ⟨rfl, (set4_ext (unhide H) _ (Nat.le_refl _) _ _ _ _).trans (Ext.alloc _ _)⟩

set_option maxHeartbeats 2000000 in
theorem number_imag_no (s : ByteArray) (o j : Nat) (v : Int) (w : World) (hs : s.size ≤ 140737488355328) (hle : j ≤ s.size - o) (ho : o < s.size)
    (HP : Hd (∀ W, Calls Tryz.prog 101 #[.string s, .int .i64 o, fnV 103] W fun e w' => e = .returned (.int .i64 ((o + j : Nat) : Int)) ∧ w' = W))
    (HQ : Hd (∀ W, Calls Tryz.prog 135 #[.string (s.extract o (o + j)), .int .i64 10, .int .i64 64] W fun e w' => e = .returned (.tuple #[.int .i64 v, .nilIface]) ∧ (w' = W ∨ ∃ t, w' = Lib.bytesWorld W 5 t)))
    (hj : o + j < s.size) (hi : ((s[o + j].toNat : Int) == 105) = true) (hk : o + j + 1 < s.size) (hn : nm s[o + j + 1] = true) : Tells 104 s o w (none) := by
  unfold Tells
  go_enter Tryz.func104, Tryz.ntmps104
  go_wp2_with (first
    | (go_at_call 101; refine Calls.mono (unhide HP _) ?_; rintro e w1 ⟨rfl, rfl⟩)
    | (go_at_call 135; refine Calls.mono (unhide HQ _) ?_; rintro e w1 ⟨rfl, hw1⟩; have hw := ext_parse hw1; have f4 := (Four.new _ _ _ _ _ _).on hw; have z0 := f4.c0; have z1 := f4.c1; have z2 := f4.c2; have z3 := f4.c3; have zf := f4.fz; have hz : w.heap.size < w1.heap.size := World.block_lt_of_cell? w1 ⟨w.heap.size, 0, none⟩ f4.c0; have F1 := hide f4; have H := hide ((Ext.alloc _ _).trans hw); clear hw hw1 f4)
    | (go_at_call 105; refine Calls.mono (inName_any _ _) ?_; rintro e w2 ⟨rfl, rfl⟩)
    | (go_at_call 136; refine Calls.mono (none_any _) ?_; rintro e w2 ⟨rfl, hw⟩; have f4 := (unhide F1).on (((Ext.alloc _ _)).trans hw); clear z0 z1 z2 z3 zf; have z0 := f4.c0; have z1 := f4.c1; have z2 := f4.c2; have z3 := f4.c3; have zf := f4.fz; have H2 := hide ((unhide H).trans (((Ext.alloc _ _)).trans hw)); clear hw f4))
  exact bodyPost_ret (v := .tuple #[tokV 0 ⟨#[]⟩ 0 0, .int .i64 0, .bool false]) (by simp [results, Tryz.results104, go_sem, z0, z1, z2, z3]) rfl ⟨rfl, set4_ext (unhide H2) _ (Nat.le_refl _) _ _ _ _⟩

set_option maxHeartbeats 2000000 in
theorem number_imag_yes (s : ByteArray) (o j : Nat) (v : Int) (w : World) (hs : s.size ≤ 140737488355328) (hle : j ≤ s.size - o) (ho : o < s.size)
    (HP : Hd (∀ W, Calls Tryz.prog 101 #[.string s, .int .i64 o, fnV 103] W fun e w' => e = .returned (.int .i64 ((o + j : Nat) : Int)) ∧ w' = W))
    (HQ : Hd (∀ W, Calls Tryz.prog 135 #[.string (s.extract o (o + j)), .int .i64 10, .int .i64 64] W fun e w' => e = .returned (.tuple #[.int .i64 v, .nilIface]) ∧ (w' = W ∨ ∃ t, w' = Lib.bytesWorld W 5 t)))
    (hj : o + j < s.size) (hi : ((s[o + j].toNat : Int) == 105) = true) (hk : o + j + 1 < s.size) (hn : nm s[o + j + 1] = false) : Tells 104 s o w (some (4, ⟨#[]⟩, v, o + j + 1)) := by
  unfold Tells
  go_enter Tryz.func104, Tryz.ntmps104
  go_wp2_with (first
    | (go_at_call 101; refine Calls.mono (unhide HP _) ?_; rintro e w1 ⟨rfl, rfl⟩)
    | (go_at_call 135; refine Calls.mono (unhide HQ _) ?_; rintro e w1 ⟨rfl, hw1⟩; have hw := ext_parse hw1; have f4 := (Four.new _ _ _ _ _ _).on hw; have z0 := f4.c0; have z1 := f4.c1; have z2 := f4.c2; have z3 := f4.c3; have zf := f4.fz; have hz : w.heap.size < w1.heap.size := World.block_lt_of_cell? w1 ⟨w.heap.size, 0, none⟩ f4.c0; have F1 := hide f4; have H := hide ((Ext.alloc _ _).trans hw); clear hw hw1 f4)
    | (go_at_call 105; refine Calls.mono (inName_any _ _) ?_; rintro e w2 ⟨rfl, rfl⟩))
  exact bodyPost_ret (v := .tuple #[tokV 4 ⟨#[]⟩ v o, .int .i64 (o + j + 1), .bool true]) (by simp [results, Tryz.results104, go_sem, z0, z1, z2, z3, hz, Nat.ne_of_lt hz]) rfl ⟨rfl, (set4_ext (unhide H) _ (Nat.le_refl _) _ _ _ _).trans (Ext.alloc _ _)⟩

theorem number_any (s : ByteArray) (o : Nat) (w : World) (ho : o < s.size) (hs : s.size ≤ 140737488355328) (hd : dg s[o] = true) (he : Er w) : Tells 104 s o w (numT s o) := by
  by_cases hr : 9223372036854775807 < nv s o
  · unfold numT
    rw [if_pos hr]
    exact number_range s o w ho hs hd he hr
  · obtain ⟨h1, hp⟩ := num_digits s o ho hd
    rw [if_pos (by omega)] at hp
    have hle := nd_le s o
    have HP : Hd (∀ W, Calls Tryz.prog 101 #[.string s, .int .i64 o, fnV 103] W fun e w' => e = .returned (.int .i64 ((o + nd s o : Nat) : Int)) ∧ w' = W) := fun W => past_digit s o W (by omega) hs
    have HQ := hide (fun W => Tryz.strconv_ParseInt_10_at64_ok (s.extract o (o + nd s o)) (by rw [ByteArray.size_extract]; omega) _ hp W)
    unfold numT
    rw [if_neg hr]
    by_cases hj : s.size ≤ o + nd s o
    · rw [isI_end s _ hj, if_neg (by decide), nmAt_end s _ hj, if_neg (by decide)]
      exact number_end s o _ _ w hs hle ho HP HQ hj
    · have hj : o + nd s o < s.size := by omega
      rw [isI_at s _ hj, nmAt_at s _ hj]
      cases hi : ((s[o + nd s o].toNat : Int) == 105) with
      | false =>
        rw [if_neg (by decide)]
        cases hn : nm s[o + nd s o] with
        | false => rw [if_neg (by decide)]; exact number_plain_yes s o _ _ w hs hle ho HP HQ hj hi hn
        | true => rw [if_pos rfl]; exact number_plain_no s o _ _ w hs hle ho HP HQ hj hi hn
      | true =>
        rw [if_pos rfl]
        by_cases hk : s.size ≤ o + nd s o + 1
        · rw [nmAt_end s _ hk, if_neg (by decide)]
          exact number_imag_end s o _ _ w hs hle ho HP HQ hj hi hk
        · have hk : o + nd s o + 1 < s.size := by omega
          rw [nmAt_at s _ hk]
          cases hn : nm s[o + nd s o + 1] with
          | false => rw [if_neg (by decide)]; exact number_imag_yes s o _ _ w hs hle ho HP HQ hj hi hk hn
          | true => rw [if_pos rfl]; exact number_imag_no s o _ _ w hs hle ho HP HQ hj hi hk hn

end Go.Proofs.YtlgdjeiendmniaaGreatDoor

namespace Go.Proofs.YtlgdjeiendmniaaGreatDoor
open Go.RowKit

/-- A byte's cell. -/
def B (c : UInt8) : Value := .int .u8 c.toNat

theorem fold_push (l : List UInt8) (r : ByteArray) : (l.map fun c => (c.toNat : Int)).foldl (fun r n => r.push (UInt8.ofNat n.toNat)) r = ⟨r.data ++ l.toArray⟩ := by
  induction l generalizing r with
  | nil => simp
  | cons c t ih =>
    simp only [List.map_cons, List.foldl_cons, Int.toNat_natCast, UInt8.ofNat_toNat]
    rw [ih]
    apply ByteArray.ext
    simp [ByteArray.push]

theorem text_of_nil (w : World) : (convert 161 9 (.slice none 0 0)).run Tryz.prog w = .ok (.string ⟨#[]⟩) w := by kernel_rfl

/-- A row of bytes of the call's own, made a text. -/
theorem run_text_of_row {w : World} {base : Nat} {v : Value} {l : List UInt8} (h : w.ownsRow base 5 1 v l.length (l.map B)) :
    (convert 161 9 v).run Tryz.prog w = .ok (.string ⟨l.toArray⟩) w := by
  obtain ⟨hl, ⟨rfl, h0⟩ | ⟨g, cap, cur, rfl, hg, hrow, _⟩⟩ := id h
  · obtain rfl := List.length_eq_zero_iff.1 h0
    exact text_of_nil w
  · rw [run_convert_bytes_string w 161 9 5 _ _ _ Tryz.underlying161 Tryz.underlying5 Tryz.underlying9]
    rw [run_bytesToString w ⟨g, 0, none⟩ l.length cap (l.map fun c => (c.toNat : Int)) ?_]
    · rw [fold_push]; simp
    · have hm : (l.map fun c => (c.toNat : Int)).map (Value.int .u8) = l.map B := by rw [List.map_map]; rfl
      rw [hm]
      have := run_loadCells_list (P := Tryz.prog) (w := w) ⟨g, 0, none⟩ (l.map B) (fun j u hj => by
        have hlt : j < (l.map B).length := by
          rcases Nat.lt_or_ge j (l.map B).length with q | q
          · exact q
          · rw [List.getElem?_eq_none q] at hj; cases hj
        have := h.cellAt j (by simpa using hlt)
        rw [hj] at this
        have ea : (⟨g, 0, none⟩ : Addr).add j = ⟨g, j, none⟩ := by cases j <;> simp [Addr.add]
        rw [ea]; exact this)
      rw [List.length_map] at this
      exact this
theorem info5 : (Tryz.prog.info? 5).map (fun i => (i.zero, i.size, i.bytes)) = some (some (.int .u8 0), 1, 1) := by kernel_rfl

/-- What stands from behind a quote on: what it tells, and how long it is, the end's quote with it. -/
def txF : Nat → List UInt8 → Option (List UInt8 × Nat)
  | 0, _ => none
  | _ + 1, [] => none
  | f + 1, c :: r => if c.toNat = 10 then none else if c.toNat = 34 then some ([], 1) else if (sg (c :: r)).2 = 0 then none
      else (txF f ((c :: r).drop (sg (c :: r)).2)).map fun p => ((sg (c :: r)).1 :: p.1, (sg (c :: r)).2 + p.2)

theorem sg_le (l : List UInt8) : (sg l).2 ≤ l.length := by
  match l with
  | [] => exact Nat.le_refl _
  | [c] => rw [sg]; split <;> simp
  | c :: d :: r => rw [sg]; split <;> (try split) <;> (try split) <;> simp

/-- The text that stands at a place. -/
def textT (s : ByteArray) (o : Nat) : Option (Int × ByteArray × Int × Nat) :=
  (txF (s.size + 1) ((L s).drop (o + 1))).map fun p => (5, ⟨p.1.toArray⟩, 0, o + 1 + p.2)

/-- What holds at the label: what was told so far, in a row of the call's own. -/
structure TI (s : ByteArray) (o : Nat) (W wr : World) (k f : Nat) (acc : List UInt8) (v : Value) : Prop where
  lo : o + 1 ≤ k
  eq : txF (s.size + 1) ((L s).drop (o + 1)) = (txF f ((L s).drop k)).map fun p => (acc ++ p.1, (k - (o + 1)) + p.2)
  fuel : s.size - k < f
  len : acc.length ≤ k
  own : wr.ownsRow W.heap.size 5 1 v acc.length (acc.map B)
  ext : Ext W wr

theorem TI.start (s : ByteArray) (o : Nat) (W : World) : TI s o W W (o + 1) (s.size + 1) [] (.slice none 0 0) := by
  refine ⟨Nat.le_refl _, ?_, by omega, Nat.zero_le _, World.ownsRow_nil W _ _ _, Ext.refl _⟩
  simp

theorem TI.next {s : ByteArray} {o : Nat} {W wr w1 : World} {k f : Nat} {acc : List UInt8} {v v' : Value} {ca : Array Value} {e : TypeId} (h : TI s o W wr k f acc v) (hk : k < s.size) (h10 : ¬ s[k].toNat = 10) (h34 : ¬ s[k].toNat = 34) (h0 : ¬ (sg ((L s).drop k)).2 = 0)
    (hown' : w1.ownsRow W.heap.size 5 1 v' (acc.length + 1) (acc.map B ++ [.int .u8 (sg ((L s).drop k)).1.toNat])) (hgrow : (wr.alloc (.cells ca e)).grownBy w1 v.ownBlock) :
    TI s o W w1 (k + (sg ((L s).drop k)).2) (f - 1) (acc ++ [(sg ((L s).drop k)).1]) v' := by
  have hlo := h.lo
  have hf := h.fuel
  refine ⟨by omega, ?_, by omega, ?_, ?_, ?_⟩
  · obtain ⟨g, rfl⟩ : ∃ g, f = g + 1 := ⟨f - 1, by omega⟩
    rw [h.eq, L_drop s k hk, txF, if_neg h10, if_neg h34]
    rw [L_drop s k hk] at h0
    rw [if_neg h0, ← L_drop s k hk, List.drop_drop, Nat.add_sub_cancel, Option.map_map]
    congr 1
    funext p
    simp only [Function.comp, List.append_assoc, List.singleton_append, Prod.mk.injEq, true_and]
    omega
  · rw [List.length_append]; have := h.len; simp; omega
  · rw [List.length_append, List.map_append]; exact hown'
  · refine (Below.alloc h.ext h.ext.le _).grown hgrow (by have := h.ext.le; simp; omega) ?_
    intro j hj
    obtain ⟨_, h | ⟨g, cap, cur, h, hg, _⟩⟩ := h.own
    · rw [h.1] at hj; cases hj
    · rw [h] at hj; cases hj; exact hg

theorem TI.stop {s : ByteArray} {o : Nat} {W wr : World} {k f : Nat} {acc : List UInt8} {v : Value} (h : TI s o W wr k f acc v) (hk : s.size ≤ k) : textT s o = none := by
  unfold textT
  rw [h.eq, L_end s k hk]
  cases f <;> rfl

theorem TI.bad {s : ByteArray} {o : Nat} {W wr : World} {k f : Nat} {acc : List UInt8} {v : Value} (h : TI s o W wr k f acc v) (hk : k < s.size) (hb : s[k].toNat = 10 ∨ (¬ s[k].toNat = 34 ∧ (sg ((L s).drop k)).2 = 0)) : textT s o = none := by
  unfold textT
  have hf := h.fuel
  obtain ⟨g, rfl⟩ : ∃ g, f = g + 1 := ⟨f - 1, by omega⟩
  rw [h.eq, L_drop s k hk, txF]
  by_cases h10 : s[k].toNat = 10
  · rw [if_pos h10]; rfl
  · rcases hb with hb | ⟨h34, h0⟩
    · exact absurd hb h10
    · rw [L_drop s k hk] at h0
      rw [if_neg h10, if_neg h34, if_pos h0]; rfl

theorem TI.good {s : ByteArray} {o : Nat} {W wr : World} {k f : Nat} {acc : List UInt8} {v : Value} (h : TI s o W wr k f acc v) (hk : k < s.size) (h34 : s[k].toNat = 34) : textT s o = some (5, ⟨acc.toArray⟩, 0, k + 1) := by
  unfold textT
  have hf := h.fuel
  have hlo := h.lo
  obtain ⟨g, rfl⟩ : ∃ g, f = g + 1 := ⟨f - 1, by omega⟩
  rw [h.eq, L_drop s k hk, txF, if_neg (by omega), if_pos h34]
  simp
  omega

set_option maxHeartbeats 4000000 in
theorem text_any (s : ByteArray) (o : Nat) (w : World) (ho : o < s.size) (hs : s.size ≤ 140737488355328) : Tells 107 s o w (textT s o) := by
  unfold Tells
  obtain ⟨i0, hi, hz0, hz1, hz2⟩ := info_parts info5
  have HI := hide hi
  have Z0 := hide hz0
  have Z1 := hide hz1
  have Z2 := hide hz2
  have F0 := hide (Four.new w 138 0 ⟨#[]⟩ 0 0)
  clear hi hz0 hz1 hz2
  obtain ⟨W0, hW0⟩ : ∃ W0, W0 = (w.alloc (.cells #[.int .i64 0, .string ⟨#[]⟩, .int .i64 0, .int .i64 0] 138)) := ⟨_, rfl⟩
  have HW := hide hW0
  have hsz : Hd (W0.heap.size = w.heap.size + 1) := by rw [hW0]; exact (Array.size_push ..)
  rw [← hW0] at F0
  clear hW0
  obtain ⟨T, hT⟩ : ∃ T, T = textT s o := ⟨_, rfl⟩
  rw [← hT]
  have HT := hide hT
  clear hT
  go_enter Tryz.func107, Tryz.ntmps107
  go_wp2
  rw [← unhide HW]
  refine wp_scope_loop 0 (fun a' wr => ∃ (k : Nat) (i : Int) (f : Nat) (acc : List UInt8) (v : Value) (u9 u10 u11 u12 u13 u14 u15 u16 u17 u18 u19 u20 u21 u22 u23 u24 u25 u26 u27 u28 u29 u30 u31 u32 u33 u34 u35 u36 u37 u38 u39 u40 u41 u42 u43 u44 u45 u46 u47 u48 u49 u50 u51 u52 u53 u54 u55 u56 : Value), a' = { tmps := #[.string s, .int .i64 o, undef, undef, .pointer (some ⟨w.heap.size, 0, none⟩), .int .i64 0, .bool false, v, .int .i64 i, u9, u10, u11, u12, u13, u14, u15, u16, u17, u18, u19, u20, u21, u22, u23, u24, u25, u26, u27, u28, u29, u30, u31, u32, u33, u34, u35, u36, u37, u38, u39, u40, u41, u42, u43, u44, u45, u46, u47, u48, u49, u50, u51, u52, u53, u54, u55, u56], defers := [] } ∧ i = k ∧ k ≤ s.size ∧ Hd (TI s o W0 wr k f acc v)) (fun a' _ => s.size - (intOf (a'.tmps.getD 8 undef)).toNat) rfl ?_ ?_
  · rintro a' wr ⟨k, i, f, acc, v, u9, u10, u11, u12, u13, u14, u15, u16, u17, u18, u19, u20, u21, u22, u23, u24, u25, u26, u27, u28, u29, u30, u31, u32, u33, u34, u35, u36, u37, u38, u39, u40, u41, u42, u43, u44, u45, u46, u47, u48, u49, u50, u51, u52, u53, u54, u55, u56, rfl, rfl, hk, hI⟩
    have XR : Hd (Ext W0 wr) := (unhide hI).ext
    have XW : Hd (Ext w W0) := by rw [unhide HW]; exact Ext.alloc _ _
    by_cases hlt : k < s.size
    · have hend : ((k : Int) == (s.size : Int)) = false := by simp; omega
      by_cases h10 : s[k].toNat = 10
      · have b1 : ((s[k].toNat : Int) == 10) = true := by simp; omega
        have hn : T = none := (unhide HT).trans ((unhide hI).bad hlt (Or.inl h10))
        subst hn
        clear HT h10
        go_wp2_with (go_at_call 136; refine Calls.mono (none_any _) ?_; rintro e w2 ⟨rfl, hw⟩; have f4 := (unhide F0).on ((unhide XR).trans hw); have z0 := f4.c0; have z1 := f4.c1; have z2 := f4.c2; have z3 := f4.c3; have zf := f4.fz; have H := hide (((unhide XW).trans (unhide XR)).trans hw); clear hw f4)
        simp only [Exit.jump]
        exact bodyPost_ret (v := .tuple #[tokV 0 ⟨#[]⟩ 0 0, .int .i64 0, .bool false]) (by simp [results, Tryz.results107, go_sem, z0, z1, z2, z3]) rfl ⟨rfl, set4_ext (unhide H) _ (Nat.le_refl _) _ _ _ _⟩
      · have b1 : ((s[k].toNat : Int) == 10) = false := by simp; omega
        by_cases h34 : s[k].toNat = 34
        · have b2 : ((s[k].toNat : Int) == 34) = true := by simp; omega
          have hn : T = _ := (unhide HT).trans ((unhide hI).good hlt h34)
          subst hn
          have hcv := run_text_of_row (unhide hI).own
          have f4 := (unhide F0).on (unhide XR)
          have z0 := f4.c0
          have z1 := f4.c1
          have z2 := f4.c2
          have z3 := f4.c3
          have zf := f4.fz
          clear HT h10 h34 f4
          go_wp2_with (simp only [hcv])
          simp only [Exit.jump]
          exact bodyPost_ret (v := .tuple #[tokV 5 ⟨acc.toArray⟩ 0 o, .int .i64 (k + 1), .bool true]) (by simp [results, Tryz.results107, go_sem, z0, z1, z2, z3]) rfl ⟨rfl, set4_ext ((unhide XW).trans (unhide XR)) _ (Nat.le_refl _) _ _ _ _⟩
        · have b2 : ((s[k].toNat : Int) == 34) = false := by simp; omega
          have HS := hide (fun W => sign_any (s.extract k s.size) W (by rw [tail_size]; omega) (by rw [tail_size]; omega))
          rw [tail_L] at HS
          have hsl := sg_le ((L s).drop k)
          rw [List.length_drop, L_len] at hsl
          by_cases h0 : (sg ((L s).drop k)).2 = 0
          · have hn : T = none := (unhide HT).trans ((unhide hI).bad hlt (Or.inr ⟨h34, h0⟩))
            subst hn
            rw [h0] at HS
            clear HT h10 h34 h0 hsl
            go_wp2_with (first
              | (go_at_call 139; refine Calls.mono (unhide HS _) ?_; rintro e w1 ⟨rfl, rfl⟩)
              | (go_at_call 136; refine Calls.mono (none_any _) ?_; rintro e w2 ⟨rfl, hw⟩; have f4 := (unhide F0).on ((unhide XR).trans hw); have z0 := f4.c0; have z1 := f4.c1; have z2 := f4.c2; have z3 := f4.c3; have zf := f4.fz; have H := hide (((unhide XW).trans (unhide XR)).trans hw); clear hw f4))
            simp only [Exit.jump]
            exact bodyPost_ret (v := .tuple #[tokV 0 ⟨#[]⟩ 0 0, .int .i64 0, .bool false]) (by simp [results, Tryz.results107, go_sem, z0, z1, z2, z3]) rfl ⟨rfl, set4_ext (unhide H) _ (Nat.le_refl _) _ _ _ _⟩
          · have N10 := hide h10
            have N34 := hide h34
            have N0 := hide h0
            have hN := fun v' w1 ca e => (unhide hI).next (v' := v') (w1 := w1) (ca := ca) (e := e) hlt h10 h34 h0
            have HN := hide hN
            clear hN h10 h34 HT N10 N34
            have e0 : (((sg ((L s).drop k)).2 : Int) == 0) = false := by simp; omega
            generalize (sg ((L s).drop k)).2 = n at *
            generalize (sg ((L s).drop k)).1 = b at *
            go_wp2_with (first
              | (go_at_call 139; refine Calls.mono (unhide HS _) ?_; rintro e w1 ⟨rfl, hw⟩; obtain rfl := hw.symm)
              | (at_builtin; refine wpList_append_own _ rfl _ _ 161 rfl W0.heap.size 5 i0 (.int .u8 0) 1 1 Tryz.underlying161 (unhide HI) (unhide Z0) (unhide Z1) (unhide Z2) rfl (by decide) _ _ _ rfl ((unhide hI).own.alloc _) ⟨wr.heap.size, 0, none⟩ 1 1 [.int .u8 b.toNat] rfl rfl (cell_one_new _ _ _) ?c2 ?c3 ?c4 ?c5 ?_))
            case c2 => intro u hu; simp at hu; subst hu; rfl
            case c3 => have := (unhide hI).len; unfold maxLen; omega
            case c4 => have := (unhide hI).len; omega
            case c5 => have := (unhide XR).le; simp; omega
            intro v' w1 hown' hgrow _
            have R := hide (unhide HN v' w1 _ _ hown' hgrow)
            clear hown' hgrow HN
            go_wp2
            go_step3
            refine ⟨rfl, ⟨k + n, _, _, _, _, _, _, _, _, _, _, _, _, _, _, _, _, _, _, _, _, _, _, _, _, _, _, _, _, _, _, _, _, _, _, _, _, _, _, _, _, _, _, _, _, _, _, _, _, _, _, _, _, rfl, by omega, by omega, R⟩, ?_⟩
            simp [intOf]
            omega
    · have hend : ((k : Int) == (s.size : Int)) = true := by simp; omega
      have hn : T = none := (unhide HT).trans ((unhide hI).stop (by omega))
      subst hn
      clear HT
      go_wp2_with (go_at_call 136; refine Calls.mono (none_any _) ?_; rintro e w2 ⟨rfl, hw⟩; have f4 := (unhide F0).on ((unhide XR).trans hw); have z0 := f4.c0; have z1 := f4.c1; have z2 := f4.c2; have z3 := f4.c3; have zf := f4.fz; have H := hide (((unhide XW).trans (unhide XR)).trans hw); clear hw f4)
      simp only [Exit.jump]
      exact bodyPost_ret (v := .tuple #[tokV 0 ⟨#[]⟩ 0 0, .int .i64 0, .bool false]) (by simp [results, Tryz.results107, go_sem, z0, z1, z2, z3]) rfl ⟨rfl, set4_ext (unhide H) _ (Nat.le_refl _) _ _ _ _⟩
  · intro H
    have HH := hide H
    clear H
    have hst := hide (TI.start s o W0)
    go_wp2
    refine wp_label ?_
    rename_i hK
    exact hK _ _ (unhide HH _ _ ⟨o + 1, _, _, _, _, _, _, _, _, _, _, _, _, _, _, _, _, _, _, _, _, _, _, _, _, _, _, _, _, _, _, _, _, _, _, _, _, _, _, _, _, _, _, _, _, _, _, _, _, _, _, _, _, rfl, by omega, by omega, hst⟩)

end Go.Proofs.YtlgdjeiendmniaaGreatDoor

namespace Go.Proofs.YtlgdjeiendmniaaGreatDoor
open Go.RowKit

/-- The word at a place. -/
def tokT (s : ByteArray) (o : Nat) : Option (Int × ByteArray × Int × Nat) :=
  match (L s)[o]? with
  | none => none
  | some c => if dg c then numT s o else if nm c then nameT s o else if c.toNat = 34 then textT s o else opT s o

set_option maxHeartbeats 1000000 in
theorem token_num (s : ByteArray) (o : Nat) (w : World) (ho : o < s.size) (hs : s.size ≤ 140737488355328) (hd : dg s[o] = true) (T : Option (Int × ByteArray × Int × Nat)) (hT : ∀ W, Ext w W → Tells 104 s o W T) : Tells 74 s o w T := by
  have HC := hide (fun W (h : Ext w W) => hT W h)
  unfold Tells at *
  clear hT
  rcases T with _ | ⟨k, t, n, m⟩
  all_goals
    go_enter Tryz.func74, Tryz.ntmps74
    go_wp2_with (first
      | (go_at_call 103; refine Calls.mono (isDigit_any _ _) ?_; rintro e w1 ⟨rfl, rfl⟩)
      | (go_at_call 105; refine Calls.mono (inName_any _ _) ?_; rintro e w1 ⟨rfl, rfl⟩)
      | (go_at_call 104; refine Calls.mono (unhide HC _ (Ext.alloc _ _)) ?_; rintro e w1 ⟨rfl, hw⟩; have f4 := (Four.new _ _ _ _ _ _).on hw; have z0 := f4.c0; have z1 := f4.c1; have z2 := f4.c2; have z3 := f4.c3; have zf := f4.fz; have H := hide ((Ext.alloc _ _).trans hw); clear hw f4))
  · exact bodyPost_ret (v := .tuple #[tokV 0 ⟨#[]⟩ 0 0, .int .i64 0, .bool false]) (by simp [results, Tryz.results74, go_sem, z0, z1, z2, z3]) rfl ⟨rfl, set4_ext (unhide H) _ (Nat.le_refl _) _ _ _ _⟩
  · exact bodyPost_ret (v := .tuple #[tokV k t n o, .int .i64 m, .bool true]) (by simp [results, Tryz.results74, go_sem, z0, z1, z2, z3]) rfl ⟨rfl, set4_ext (unhide H) _ (Nat.le_refl _) _ _ _ _⟩

set_option maxHeartbeats 1000000 in
theorem token_name (s : ByteArray) (o : Nat) (w : World) (ho : o < s.size) (hs : s.size ≤ 140737488355328) (hd : dg s[o] = false) (hn : nm s[o] = true) (T : Option (Int × ByteArray × Int × Nat)) (hT : ∀ W, Ext w W → Tells 106 s o W T) : Tells 74 s o w T := by
  have HC := hide (fun W (h : Ext w W) => hT W h)
  unfold Tells at *
  clear hT
  rcases T with _ | ⟨k, t, n, m⟩
  all_goals
    go_enter Tryz.func74, Tryz.ntmps74
    go_wp2_with (first
      | (go_at_call 103; refine Calls.mono (isDigit_any _ _) ?_; rintro e w1 ⟨rfl, rfl⟩)
      | (go_at_call 105; refine Calls.mono (inName_any _ _) ?_; rintro e w1 ⟨rfl, rfl⟩)
      | (go_at_call 106; refine Calls.mono (unhide HC _ (Ext.alloc _ _)) ?_; rintro e w1 ⟨rfl, hw⟩; have f4 := (Four.new _ _ _ _ _ _).on hw; have z0 := f4.c0; have z1 := f4.c1; have z2 := f4.c2; have z3 := f4.c3; have zf := f4.fz; have H := hide ((Ext.alloc _ _).trans hw); clear hw f4))
  · exact bodyPost_ret (v := .tuple #[tokV 0 ⟨#[]⟩ 0 0, .int .i64 0, .bool false]) (by simp [results, Tryz.results74, go_sem, z0, z1, z2, z3]) rfl ⟨rfl, set4_ext (unhide H) _ (Nat.le_refl _) _ _ _ _⟩
  · exact bodyPost_ret (v := .tuple #[tokV k t n o, .int .i64 m, .bool true]) (by simp [results, Tryz.results74, go_sem, z0, z1, z2, z3]) rfl ⟨rfl, set4_ext (unhide H) _ (Nat.le_refl _) _ _ _ _⟩

set_option maxHeartbeats 1000000 in
theorem token_text (s : ByteArray) (o : Nat) (w : World) (ho : o < s.size) (hs : s.size ≤ 140737488355328) (hd : dg s[o] = false) (hn : nm s[o] = false) (hq : s[o].toNat = 34) (T : Option (Int × ByteArray × Int × Nat)) (hT : ∀ W, Ext w W → Tells 107 s o W T) : Tells 74 s o w T := by
  have HC := hide (fun W (h : Ext w W) => hT W h)
  unfold Tells at *
  clear hT
  have b1 : ((s[o].toNat : Int) == 34) = true := by simp; omega
  clear hq
  rcases T with _ | ⟨k, t, n, m⟩
  all_goals
    go_enter Tryz.func74, Tryz.ntmps74
    go_wp2_with (first
      | (go_at_call 103; refine Calls.mono (isDigit_any _ _) ?_; rintro e w1 ⟨rfl, rfl⟩)
      | (go_at_call 105; refine Calls.mono (inName_any _ _) ?_; rintro e w1 ⟨rfl, rfl⟩)
      | (go_at_call 107; refine Calls.mono (unhide HC _ (Ext.alloc _ _)) ?_; rintro e w1 ⟨rfl, hw⟩; have f4 := (Four.new _ _ _ _ _ _).on hw; have z0 := f4.c0; have z1 := f4.c1; have z2 := f4.c2; have z3 := f4.c3; have zf := f4.fz; have H := hide ((Ext.alloc _ _).trans hw); clear hw f4))
  · exact bodyPost_ret (v := .tuple #[tokV 0 ⟨#[]⟩ 0 0, .int .i64 0, .bool false]) (by simp [results, Tryz.results74, go_sem, z0, z1, z2, z3]) rfl ⟨rfl, set4_ext (unhide H) _ (Nat.le_refl _) _ _ _ _⟩
  · exact bodyPost_ret (v := .tuple #[tokV k t n o, .int .i64 m, .bool true]) (by simp [results, Tryz.results74, go_sem, z0, z1, z2, z3]) rfl ⟨rfl, set4_ext (unhide H) _ (Nat.le_refl _) _ _ _ _⟩

set_option maxHeartbeats 1000000 in
theorem token_op (s : ByteArray) (o : Nat) (w : World) (ho : o < s.size) (hs : s.size ≤ 140737488355328) (hd : dg s[o] = false) (hn : nm s[o] = false) (hq : ¬ s[o].toNat = 34) (T : Option (Int × ByteArray × Int × Nat)) (hT : ∀ W, Ext w W → Tells 108 s o W T) : Tells 74 s o w T := by
  have HC := hide (fun W (h : Ext w W) => hT W h)
  unfold Tells at *
  clear hT
  have b1 : ((s[o].toNat : Int) == 34) = false := by simp; omega
  clear hq
  rcases T with _ | ⟨k, t, n, m⟩
  all_goals
    go_enter Tryz.func74, Tryz.ntmps74
    go_wp2_with (first
      | (go_at_call 103; refine Calls.mono (isDigit_any _ _) ?_; rintro e w1 ⟨rfl, rfl⟩)
      | (go_at_call 105; refine Calls.mono (inName_any _ _) ?_; rintro e w1 ⟨rfl, rfl⟩)
      | (go_at_call 108; refine Calls.mono (unhide HC _ (Ext.alloc _ _)) ?_; rintro e w1 ⟨rfl, hw⟩; have f4 := (Four.new _ _ _ _ _ _).on hw; have z0 := f4.c0; have z1 := f4.c1; have z2 := f4.c2; have z3 := f4.c3; have zf := f4.fz; have H := hide ((Ext.alloc _ _).trans hw); clear hw f4))
  · exact bodyPost_ret (v := .tuple #[tokV 0 ⟨#[]⟩ 0 0, .int .i64 0, .bool false]) (by simp [results, Tryz.results74, go_sem, z0, z1, z2, z3]) rfl ⟨rfl, set4_ext (unhide H) _ (Nat.le_refl _) _ _ _ _⟩
  · exact bodyPost_ret (v := .tuple #[tokV k t n o, .int .i64 m, .bool true]) (by simp [results, Tryz.results74, go_sem, z0, z1, z2, z3]) rfl ⟨rfl, set4_ext (unhide H) _ (Nat.le_refl _) _ _ _ _⟩

theorem token_any (s : ByteArray) (o : Nat) (w : World) (ho : o < s.size) (hs : s.size ≤ 140737488355328) (he : Er w) : Tells 74 s o w (tokT s o) := by
  unfold tokT
  rw [L_get s o ho]
  show Tells _ s o w (if dg s[o] = true then _ else _)
  cases hd : dg s[o] with
  | true => rw [if_pos rfl]; exact token_num s o w ho hs hd _ fun W h => number_any s o W ho hs hd (he.on h)
  | false =>
    rw [if_neg (by decide)]
    cases hn : nm s[o] with
    | true => rw [if_pos rfl]; exact token_name s o w ho hs hd hn _ fun W h => name_any s o W (by omega) hs
    | false =>
      rw [if_neg (by decide)]
      by_cases hq : s[o].toNat = 34
      · rw [if_pos hq]; exact token_text s o w ho hs hd hn hq _ fun W h => text_any s o W ho hs
      · rw [if_neg hq]; exact token_op s o w ho hs hd hn hq _ fun W h => op_any s o W ho hs

theorem txF_pos : ∀ (f : Nat) (l : List UInt8) (p : List UInt8 × Nat), txF f l = some p → 1 ≤ p.2 ∧ p.2 ≤ l.length := by
  intro f
  induction f with
  | zero => intro l p h; simp [txF] at h
  | succ f ih =>
    intro l p h
    cases l with
    | nil => simp [txF] at h
    | cons c r =>
      rw [txF] at h
      split at h
      · cases h
      · split at h
        · cases h; simp
        · split at h
          · cases h
          · obtain ⟨q, hq, rfl⟩ := Option.map_eq_some_iff.1 h
            have := ih _ _ hq
            have h2 := sg_le (c :: r)
            rw [List.length_drop] at this
            simp only [] at *
            omega

/-- A word is not empty, and ends within the text. -/
theorem tok_lt (s : ByteArray) (o : Nat) (k : Int) (t : ByteArray) (n : Int) (m : Nat) (h : tokT s o = some (k, t, n, m)) : o < m ∧ m ≤ s.size := by
  unfold tokT at h
  by_cases ho : o < s.size
  · rw [L_get s o ho] at h
    replace h : (if dg s[o] = true then _ else _) = _ := h
    cases hd : dg s[o] with
    | true =>
      rw [hd, if_pos rfl] at h
      have h1 := (num_digits s o ho hd).1
      have h2 := nd_le s o
      unfold numT at h
      split at h
      · cases h
      · split at h
        · rename_i hi
          split at h
          · cases h
          · cases h
            by_cases hj : o + nd s o < s.size
            · omega
            · rw [isI_end s _ (by omega)] at hi; cases hi
        · split at h
          · cases h
          · cases h; omega
    | false =>
      rw [hd, if_neg (by decide)] at h
      cases hn : nm s[o] with
      | true =>
        rw [hn, if_pos rfl] at h
        have h1 : 1 ≤ run nm ((L s).drop o) := by rw [L_drop s o ho]; exact run_pos hn
        have h2 := run_le nm ((L s).drop o)
        rw [List.length_drop, L_len] at h2
        unfold nameT at h
        split at h
        · cases h
        · cases h; omega
      | false =>
        rw [hn, if_neg (by decide)] at h
        split at h
        · unfold textT at h
          obtain ⟨q, hq, e⟩ := Option.map_eq_some_iff.1 h
          cases e
          have := txF_pos _ _ _ hq
          rw [List.length_drop, L_len] at this
          omega
        · unfold opT at h
          have h2 := opL_le ((L s).drop o)
          rw [List.length_drop, L_len] at h2
          split at h
          · cases h
          · cases h; omega
  · rw [List.getElem?_eq_none (by rw [L_len]; omega)] at h
    cases h

/-- A word as plain data. -/
structure Tk where
  k : Int
  t : ByteArray
  n : Int
  o : Nat
def tkC (x : Tk) : List Value := [.int .i64 x.k, .string x.t, .int .i64 x.n, .int .i64 x.o]

/-- The words of a text from a place on; or some of them, and the place at which none begins. -/
def lexF : Nat → ByteArray → Nat → List Tk × Option Nat
  | 0, _, _ => ([], some 0)
  | f + 1, s, o => if s.size ≤ o + skp false ((L s).drop o) then ([], none) else
      match tokT s (o + skp false ((L s).drop o)) with
      | none => ([], some (o + skp false ((L s).drop o)))
      | some (k, t, n, m) => (⟨k, t, n, o + skp false ((L s).drop o)⟩ :: (lexF f s m).1, (lexF f s m).2)

end Go.Proofs.YtlgdjeiendmniaaGreatDoor
