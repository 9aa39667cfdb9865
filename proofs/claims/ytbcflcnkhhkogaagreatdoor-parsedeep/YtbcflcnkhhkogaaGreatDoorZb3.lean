/- Words between quotes. · The word at a place; all words of a text. · All words of a text. -/
import Derived.Test.YtbcflcnkhhkogaaGreatDoorZb2
import Derived.OwnWalk
import Derived.Laws.BytesString
set_option linter.unusedSimpArgs false
set_option linter.unusedVariables false
set_option maxRecDepth 10000

namespace Go.Proofs.YtbcflcnkhhkogaaGreatDoor
open Go.RowKit

/-- A byte's cell. -/
def B (c : UInt8) : Value := .int .u8 c.toNat

theorem fold_push (l : List UInt8) (r : ByteArray) : (l.map fun c => (c.toNat : Int)).foldl (fun r n => r.push (UInt8.ofNat n.toNat)) r = ⟨r.data ++ l.toArray⟩ := by
  induction l generalizing r with
  | nil => simp
  | cons c t ih =>
    simp only [List.map_cons, List.foldl_cons, Int.toNat_natCast, UInt8.ofNat_toNat]
    rw [ih]
    apply ByteArray.ext
    simp [ByteArray.push]

theorem text_of_nil (w : World) : (convert 66 9 (.slice none 0 0)).run Tryz.prog w = .ok (.string ⟨#[]⟩) w := by kernel_rfl

/-- A row of bytes of the call's own, made a text. -/
theorem run_text_of_row {w : World} {base : Nat} {v : Value} {l : List UInt8} (h : w.ownsRow base 5 1 v l.length (l.map B)) :
    (convert 66 9 v).run Tryz.prog w = .ok (.string ⟨l.toArray⟩) w := by
  obtain ⟨hl, ⟨rfl, h0⟩ | ⟨g, cap, cur, rfl, hg, hrow, _⟩⟩ := id h
  · obtain rfl := List.length_eq_zero_iff.1 h0
    exact text_of_nil w
  · rw [run_convert_bytes_string w 66 9 5 _ _ _ Tryz.underlying66 Tryz.underlying5 Tryz.underlying9]
    rw [run_bytesToString w ⟨g, 0, none⟩ l.length cap (l.map fun c => (c.toNat : Int)) ?_]
    · rw [fold_push]; simp
    · have hm : (l.map fun c => (c.toNat : Int)).map (Value.int .u8) = l.map B := by rw [List.map_map]; rfl
      rw [hm]
      have := run_loadCells_list (P := Tryz.prog) (w := w) ⟨g, 0, none⟩ (l.map B) (fun j u hj => by
        have hlt : j < (l.map B).length := by
          rcases Nat.lt_or_ge j (l.map B).length with q | q
          · exact q
          · rw [List.getElem?_eq_none q] at hj; cases hj
        have := h.cellAt j (by simpa using hlt)
        rw [hj] at this
        have ea : (⟨g, 0, none⟩ : Addr).add j = ⟨g, j, none⟩ := by cases j <;> simp [Addr.add]
        rw [ea]; exact this)
      rw [List.length_map] at this
      exact this
theorem info5 : (Tryz.prog.info? 5).map (fun i => (i.zero, i.size, i.bytes)) = some (some (.int .u8 0), 1, 1) := by kernel_rfl

/-- What stands from behind a quote on: what it tells, and how long it is, the end's quote with it. -/
def txF : Nat → List UInt8 → Option (List UInt8 × Nat)
  | 0, _ => none
  | _ + 1, [] => none
  | f + 1, c :: r => if c.toNat = 10 then none else if c.toNat = 34 then some ([], 1) else if (sg (c :: r)).2 = 0 then none
      else (txF f ((c :: r).drop (sg (c :: r)).2)).map fun p => ((sg (c :: r)).1 :: p.1, (sg (c :: r)).2 + p.2)

theorem sg_le (l : List UInt8) : (sg l).2 ≤ l.length := by
  match l with
  | [] => exact Nat.le_refl _
  | [c] => rw [sg]; split <;> simp
  | c :: d :: r => rw [sg]; split <;> (try split) <;> (try split) <;> simp

/-- The text that stands at a place. -/
def textT (s : ByteArray) (o : Nat) : Option (Int × ByteArray × Int × Nat) :=
  (txF (s.size + 1) ((L s).drop (o + 1))).map fun p => (5, ⟨p.1.toArray⟩, 0, o + 1 + p.2)

/-- What holds at the label: what was told so far, in a row of the call's own. -/
structure TI (s : ByteArray) (o : Nat) (W wr : World) (k f : Nat) (acc : List UInt8) (v : Value) : Prop where
  lo : o + 1 ≤ k
  eq : txF (s.size + 1) ((L s).drop (o + 1)) = (txF f ((L s).drop k)).map fun p => (acc ++ p.1, (k - (o + 1)) + p.2)
  fuel : s.size - k < f
  len : acc.length ≤ k
  own : wr.ownsRow W.heap.size 5 1 v acc.length (acc.map B)
  ext : Ext W wr

theorem TI.start (s : ByteArray) (o : Nat) (W : World) : TI s o W W (o + 1) (s.size + 1) [] (.slice none 0 0) := by
  refine ⟨Nat.le_refl _, ?_, by omega, Nat.zero_le _, World.ownsRow_nil W _ _ _, Ext.refl _⟩
  simp

theorem TI.next {s : ByteArray} {o : Nat} {W wr w1 : World} {k f : Nat} {acc : List UInt8} {v v' : Value} {ca : Array Value} {e : TypeId} (h : TI s o W wr k f acc v) (hk : k < s.size) (h10 : ¬ s[k].toNat = 10) (h34 : ¬ s[k].toNat = 34) (h0 : ¬ (sg ((L s).drop k)).2 = 0)
    (hown' : w1.ownsRow W.heap.size 5 1 v' (acc.length + 1) (acc.map B ++ [.int .u8 (sg ((L s).drop k)).1.toNat])) (hgrow : (wr.alloc (.cells ca e)).grownBy w1 v.ownBlock) :
    TI s o W w1 (k + (sg ((L s).drop k)).2) (f - 1) (acc ++ [(sg ((L s).drop k)).1]) v' := by
  have hlo := h.lo
  have hf := h.fuel
  refine ⟨by omega, ?_, by omega, ?_, ?_, ?_⟩
  · obtain ⟨g, rfl⟩ : ∃ g, f = g + 1 := ⟨f - 1, by omega⟩
    rw [h.eq, L_drop s k hk, txF, if_neg h10, if_neg h34]
    rw [L_drop s k hk] at h0
    rw [if_neg h0, ← L_drop s k hk, List.drop_drop, Nat.add_sub_cancel, Option.map_map]
    congr 1
    funext p
    simp only [Function.comp, List.append_assoc, List.singleton_append, Prod.mk.injEq, true_and]
    omega
  · rw [List.length_append]; have := h.len; simp; omega
  · rw [List.length_append, List.map_append]; exact hown'
  · refine (Below.alloc h.ext h.ext.le _).grown hgrow (by have := h.ext.le; simp; omega) ?_
    intro j hj
    obtain ⟨_, h | ⟨g, cap, cur, h, hg, _⟩⟩ := h.own
    · rw [h.1] at hj; cases hj
    · rw [h] at hj; cases hj; exact hg

theorem TI.stop {s : ByteArray} {o : Nat} {W wr : World} {k f : Nat} {acc : List UInt8} {v : Value} (h : TI s o W wr k f acc v) (hk : s.size ≤ k) : textT s o = none := by
  unfold textT
  rw [h.eq, L_end s k hk]
  cases f <;> rfl

theorem TI.bad {s : ByteArray} {o : Nat} {W wr : World} {k f : Nat} {acc : List UInt8} {v : Value} (h : TI s o W wr k f acc v) (hk : k < s.size) (hb : s[k].toNat = 10 ∨ (¬ s[k].toNat = 34 ∧ (sg ((L s).drop k)).2 = 0)) : textT s o = none := by
  unfold textT
  have hf := h.fuel
  obtain ⟨g, rfl⟩ : ∃ g, f = g + 1 := ⟨f - 1, by omega⟩
  rw [h.eq, L_drop s k hk, txF]
  by_cases h10 : s[k].toNat = 10
  · rw [if_pos h10]; rfl
  · rcases hb with hb | ⟨h34, h0⟩
    · exact absurd hb h10
    · rw [L_drop s k hk] at h0
      rw [if_neg h10, if_neg h34, if_pos h0]; rfl

theorem TI.good {s : ByteArray} {o : Nat} {W wr : World} {k f : Nat} {acc : List UInt8} {v : Value} (h : TI s o W wr k f acc v) (hk : k < s.size) (h34 : s[k].toNat = 34) : textT s o = some (5, ⟨acc.toArray⟩, 0, k + 1) := by
  unfold textT
  have hf := h.fuel
  have hlo := h.lo
  obtain ⟨g, rfl⟩ : ∃ g, f = g + 1 := ⟨f - 1, by omega⟩
  rw [h.eq, L_drop s k hk, txF, if_neg (by omega), if_pos h34]
  simp
  omega

set_option maxHeartbeats 4000000 in
theorem text_any (s : ByteArray) (o : Nat) (w : World) (ho : o < s.size) (hs : s.size ≤ 140737488355328) : Tells 114 s o w (textT s o) := by
  unfold Tells
  obtain ⟨i0, hi, hz0, hz1, hz2⟩ := info_parts info5
  have HI := hide hi
  have Z0 := hide hz0
  have Z1 := hide hz1
  have Z2 := hide hz2
  have F0 := hide (Four.new w 110 0 ⟨#[]⟩ 0 0)
  clear hi hz0 hz1 hz2
  obtain ⟨W0, hW0⟩ : ∃ W0, W0 = (w.alloc (.cells #[.int .i64 0, .string ⟨#[]⟩, .int .i64 0, .int .i64 0] 110)) := ⟨_, rfl⟩
  have HW := hide hW0
  have hsz : Hd (W0.heap.size = w.heap.size + 1) := by rw [hW0]; exact (Array.size_push ..)
  rw [← hW0] at F0
  clear hW0
  obtain ⟨T, hT⟩ : ∃ T, T = textT s o := ⟨_, rfl⟩
  rw [← hT]
  have HT := hide hT
  clear hT
  go_enter Tryz.func114, Tryz.ntmps114
  go_wp2
  rw [← unhide HW]
  refine wp_scope_loop 0 (fun a' wr => ∃ (k : Nat) (i : Int) (f : Nat) (acc : List UInt8) (v : Value) (u9 u10 u11 u12 u13 u14 u15 u16 u17 u18 u19 u20 u21 u22 u23 u24 u25 u26 u27 u28 u29 u30 u31 u32 u33 u34 u35 u36 u37 u38 u39 u40 u41 u42 u43 u44 u45 u46 u47 u48 u49 u50 u51 u52 u53 u54 u55 u56 : Value), a' = { tmps := #[.string s, .int .i64 o, undef, undef, .pointer (some ⟨w.heap.size, 0, none⟩), .int .i64 0, .bool false, v, .int .i64 i, u9, u10, u11, u12, u13, u14, u15, u16, u17, u18, u19, u20, u21, u22, u23, u24, u25, u26, u27, u28, u29, u30, u31, u32, u33, u34, u35, u36, u37, u38, u39, u40, u41, u42, u43, u44, u45, u46, u47, u48, u49, u50, u51, u52, u53, u54, u55, u56], defers := [] } ∧ i = k ∧ k ≤ s.size ∧ Hd (TI s o W0 wr k f acc v)) (fun a' _ => s.size - (intOf (a'.tmps.getD 8 undef)).toNat) rfl ?_ ?_
  · rintro a' wr ⟨k, i, f, acc, v, u9, u10, u11, u12, u13, u14, u15, u16, u17, u18, u19, u20, u21, u22, u23, u24, u25, u26, u27, u28, u29, u30, u31, u32, u33, u34, u35, u36, u37, u38, u39, u40, u41, u42, u43, u44, u45, u46, u47, u48, u49, u50, u51, u52, u53, u54, u55, u56, rfl, rfl, hk, hI⟩
    have XR : Hd (Ext W0 wr) := (unhide hI).ext
    have XW : Hd (Ext w W0) := by rw [unhide HW]; exact Ext.alloc _ _
    by_cases hlt : k < s.size
    · have hend : ((k : Int) == (s.size : Int)) = false := by simp; omega
      by_cases h10 : s[k].toNat = 10
      · have b1 : ((s[k].toNat : Int) == 10) = true := by simp; omega
        have hn : T = none := (unhide HT).trans ((unhide hI).bad hlt (Or.inl h10))
        subst hn
        clear HT h10
        go_wp2_with (go_at_call 137; refine Calls.mono (none_any _) ?_; rintro e w2 ⟨rfl, hw⟩; have f4 := (unhide F0).on ((unhide XR).trans hw); have z0 := f4.c0; have z1 := f4.c1; have z2 := f4.c2; have z3 := f4.c3; have zf := f4.fz; have H := hide (((unhide XW).trans (unhide XR)).trans hw); clear hw f4)
        simp only [Exit.jump]
        exact bodyPost_ret (v := .tuple #[tokV 0 ⟨#[]⟩ 0 0, .int .i64 0, .bool false]) (by simp [results, Tryz.results114, go_sem, z0, z1, z2, z3]) rfl ⟨rfl, set4_ext (unhide H) _ (Nat.le_refl _) _ _ _ _⟩
      · have b1 : ((s[k].toNat : Int) == 10) = false := by simp; omega
        by_cases h34 : s[k].toNat = 34
        · have b2 : ((s[k].toNat : Int) == 34) = true := by simp; omega
          have hn : T = _ := (unhide HT).trans ((unhide hI).good hlt h34)
          subst hn
          have hcv := run_text_of_row (unhide hI).own
          have f4 := (unhide F0).on (unhide XR)
          have z0 := f4.c0
          have z1 := f4.c1
          have z2 := f4.c2
          have z3 := f4.c3
          have zf := f4.fz
          clear HT h10 h34 f4
          go_wp2_with (simp only [hcv])
          simp only [Exit.jump]
          exact bodyPost_ret (v := .tuple #[tokV 5 ⟨acc.toArray⟩ 0 o, .int .i64 (k + 1), .bool true]) (by simp [results, Tryz.results114, go_sem, z0, z1, z2, z3]) rfl ⟨rfl, set4_ext ((unhide XW).trans (unhide XR)) _ (Nat.le_refl _) _ _ _ _⟩
        · have b2 : ((s[k].toNat : Int) == 34) = false := by simp; omega
          have HS := hide (fun W => sign_any (s.extract k s.size) W (by rw [tail_size]; omega) (by rw [tail_size]; omega))
          rw [tail_L] at HS
          have hsl := sg_le ((L s).drop k)
          rw [List.length_drop, L_len] at hsl
          by_cases h0 : (sg ((L s).drop k)).2 = 0
          · have hn : T = none := (unhide HT).trans ((unhide hI).bad hlt (Or.inr ⟨h34, h0⟩))
            subst hn
            rw [h0] at HS
            clear HT h10 h34 h0 hsl
            go_wp2_with (first
              | (go_at_call 140; refine Calls.mono (unhide HS _) ?_; rintro e w1 ⟨rfl, rfl⟩)
              | (go_at_call 137; refine Calls.mono (none_any _) ?_; rintro e w2 ⟨rfl, hw⟩; have f4 := (unhide F0).on ((unhide XR).trans hw); have z0 := f4.c0; have z1 := f4.c1; have z2 := f4.c2; have z3 := f4.c3; have zf := f4.fz; have H := hide (((unhide XW).trans (unhide XR)).trans hw); clear hw f4))
            simp only [Exit.jump]
            exact bodyPost_ret (v := .tuple #[tokV 0 ⟨#[]⟩ 0 0, .int .i64 0, .bool false]) (by simp [results, Tryz.results114, go_sem, z0, z1, z2, z3]) rfl ⟨rfl, set4_ext (unhide H) _ (Nat.le_refl _) _ _ _ _⟩
          · have N10 := hide h10
            have N34 := hide h34
            have N0 := hide h0
            have hN := fun v' w1 ca e => (unhide hI).next (v' := v') (w1 := w1) (ca := ca) (e := e) hlt h10 h34 h0
            have HN := hide hN
            clear hN h10 h34 HT N10 N34
            have e0 : (((sg ((L s).drop k)).2 : Int) == 0) = false := by simp; omega
            generalize (sg ((L s).drop k)).2 = n at *
            generalize (sg ((L s).drop k)).1 = b at *
            go_wp2_with (first
              | (go_at_call 140; refine Calls.mono (unhide HS _) ?_; rintro e w1 ⟨rfl, hw⟩; obtain rfl := hw.symm)
              | (at_builtin; refine wpList_append_own _ rfl _ _ 66 rfl W0.heap.size 5 i0 (.int .u8 0) 1 1 Tryz.underlying66 (unhide HI) (unhide Z0) (unhide Z1) (unhide Z2) rfl (by decide) _ _ _ rfl ((unhide hI).own.alloc _) ⟨wr.heap.size, 0, none⟩ 1 1 [.int .u8 b.toNat] rfl rfl (cell_one_new _ _ _) ?c2 ?c3 ?c4 ?c5 ?_))
            case c2 => intro u hu; simp at hu; subst hu; rfl
            case c3 => have := (unhide hI).len; unfold maxLen; omega
            case c4 => have := (unhide hI).len; omega
            case c5 => have := (unhide XR).le; simp; omega
            intro v' w1 hown' hgrow _
            have R := hide (unhide HN v' w1 _ _ hown' hgrow)
            clear hown' hgrow HN
            go_wp2
            go_step3
            refine ⟨rfl, ⟨k + n, _, _, _, _, _, _, _, _, _, _, _, _, _, _, _, _, _, _, _, _, _, _, _, _, _, _, _, _, _, _, _, _, _, _, _, _, _, _, _, _, _, _, _, _, _, _, _, _, _, _, _, _, rfl, by omega, by omega, R⟩, ?_⟩
            simp [intOf]
            omega
    · have hend : ((k : Int) == (s.size : Int)) = true := by simp; omega
      have hn : T = none := (unhide HT).trans ((unhide hI).stop (by omega))
      subst hn
      clear HT
      go_wp2_with (go_at_call 137; refine Calls.mono (none_any _) ?_; rintro e w2 ⟨rfl, hw⟩; have f4 := (unhide F0).on ((unhide XR).trans hw); have z0 := f4.c0; have z1 := f4.c1; have z2 := f4.c2; have z3 := f4.c3; have zf := f4.fz; have H := hide (((unhide XW).trans (unhide XR)).trans hw); clear hw f4)
      simp only [Exit.jump]
      exact bodyPost_ret (v := .tuple #[tokV 0 ⟨#[]⟩ 0 0, .int .i64 0, .bool false]) (by simp [results, Tryz.results114, go_sem, z0, z1, z2, z3]) rfl ⟨rfl, set4_ext (unhide H) _ (Nat.le_refl _) _ _ _ _⟩
  · intro H
    have HH := hide H
    clear H
    have hst := hide (TI.start s o W0)
    go_wp2
    refine wp_label ?_
    rename_i hK
    exact hK _ _ (unhide HH _ _ ⟨o + 1, _, _, _, _, _, _, _, _, _, _, _, _, _, _, _, _, _, _, _, _, _, _, _, _, _, _, _, _, _, _, _, _, _, _, _, _, _, _, _, _, _, _, _, _, _, _, _, _, _, _, _, _, rfl, by omega, by omega, hst⟩)

end Go.Proofs.YtbcflcnkhhkogaaGreatDoor

namespace Go.Proofs.YtbcflcnkhhkogaaGreatDoor
open Go.RowKit

/-- The word at a place. -/
def tokT (s : ByteArray) (o : Nat) : Option (Int × ByteArray × Int × Nat) :=
  match (L s)[o]? with
  | none => none
  | some c => if dg c then numT s o else if nm c then nameT s o else if c.toNat = 34 then textT s o else opT s o

set_option maxHeartbeats 1000000 in
theorem token_num (s : ByteArray) (o : Nat) (w : World) (ho : o < s.size) (hs : s.size ≤ 140737488355328) (hd : dg s[o] = true) (T : Option (Int × ByteArray × Int × Nat)) (hT : ∀ W, Ext w W → Tells 111 s o W T) : Tells 82 s o w T := by
  have HC := hide (fun W (h : Ext w W) => hT W h)
  unfold Tells at *
  clear hT
  rcases T with _ | ⟨k, t, n, m⟩
  all_goals
    go_enter Tryz.func82, Tryz.ntmps82
    go_wp2_with (first
      | (go_at_call 110; refine Calls.mono (isDigit_any _ _) ?_; rintro e w1 ⟨rfl, rfl⟩)
      | (go_at_call 112; refine Calls.mono (inName_any _ _) ?_; rintro e w1 ⟨rfl, rfl⟩)
      | (go_at_call 111; refine Calls.mono (unhide HC _ (Ext.alloc _ _)) ?_; rintro e w1 ⟨rfl, hw⟩; have f4 := (Four.new _ _ _ _ _ _).on hw; have z0 := f4.c0; have z1 := f4.c1; have z2 := f4.c2; have z3 := f4.c3; have zf := f4.fz; have H := hide ((Ext.alloc _ _).trans hw); clear hw f4))
  · exact bodyPost_ret (v := .tuple #[tokV 0 ⟨#[]⟩ 0 0, .int .i64 0, .bool false]) (by simp [results, Tryz.results82, go_sem, z0, z1, z2, z3]) rfl ⟨rfl, set4_ext (unhide H) _ (Nat.le_refl _) _ _ _ _⟩
  · exact bodyPost_ret (v := .tuple #[tokV k t n o, .int .i64 m, .bool true]) (by simp [results, Tryz.results82, go_sem, z0, z1, z2, z3]) rfl ⟨rfl, set4_ext (unhide H) _ (Nat.le_refl _) _ _ _ _⟩

set_option maxHeartbeats 1000000 in
theorem token_name (s : ByteArray) (o : Nat) (w : World) (ho : o < s.size) (hs : s.size ≤ 140737488355328) (hd : dg s[o] = false) (hn : nm s[o] = true) (T : Option (Int × ByteArray × Int × Nat)) (hT : ∀ W, Ext w W → Tells 113 s o W T) : Tells 82 s o w T := by
  have HC := hide (fun W (h : Ext w W) => hT W h)
  unfold Tells at *
  clear hT
  rcases T with _ | ⟨k, t, n, m⟩
  all_goals
    go_enter Tryz.func82, Tryz.ntmps82
    go_wp2_with (first
      | (go_at_call 110; refine Calls.mono (isDigit_any _ _) ?_; rintro e w1 ⟨rfl, rfl⟩)
      | (go_at_call 112; refine Calls.mono (inName_any _ _) ?_; rintro e w1 ⟨rfl, rfl⟩)
      | (go_at_call 113; refine Calls.mono (unhide HC _ (Ext.alloc _ _)) ?_; rintro e w1 ⟨rfl, hw⟩; have f4 := (Four.new _ _ _ _ _ _).on hw; have z0 := f4.c0; have z1 := f4.c1; have z2 := f4.c2; have z3 := f4.c3; have zf := f4.fz; have H := hide ((Ext.alloc _ _).trans hw); clear hw f4))
  · exact bodyPost_ret (v := .tuple #[tokV 0 ⟨#[]⟩ 0 0, .int .i64 0, .bool false]) (by simp [results, Tryz.results82, go_sem, z0, z1, z2, z3]) rfl ⟨rfl, set4_ext (unhide H) _ (Nat.le_refl _) _ _ _ _⟩
  · exact bodyPost_ret (v := .tuple #[tokV k t n o, .int .i64 m, .bool true]) (by simp [results, Tryz.results82, go_sem, z0, z1, z2, z3]) rfl ⟨rfl, set4_ext (unhide H) _ (Nat.le_refl _) _ _ _ _⟩

set_option maxHeartbeats 1000000 in
theorem token_text (s : ByteArray) (o : Nat) (w : World) (ho : o < s.size) (hs : s.size ≤ 140737488355328) (hd : dg s[o] = false) (hn : nm s[o] = false) (hq : s[o].toNat = 34) (T : Option (Int × ByteArray × Int × Nat)) (hT : ∀ W, Ext w W → Tells 114 s o W T) : Tells 82 s o w T := by
  have HC := hide (fun W (h : Ext w W) => hT W h)
  unfold Tells at *
  clear hT
  have b1 : ((s[o].toNat : Int) == 34) = true := by simp; omega
  clear hq
  rcases T with _ | ⟨k, t, n, m⟩
  all_goals
    go_enter Tryz.func82, Tryz.ntmps82
    go_wp2_with (first
      | (go_at_call 110; refine Calls.mono (isDigit_any _ _) ?_; rintro e w1 ⟨rfl, rfl⟩)
      | (go_at_call 112; refine Calls.mono (inName_any _ _) ?_; rintro e w1 ⟨rfl, rfl⟩)
      | (go_at_call 114; refine Calls.mono (unhide HC _ (Ext.alloc _ _)) ?_; rintro e w1 ⟨rfl, hw⟩; have f4 := (Four.new _ _ _ _ _ _).on hw; have z0 := f4.c0; have z1 := f4.c1; have z2 := f4.c2; have z3 := f4.c3; have zf := f4.fz; have H := hide ((Ext.alloc _ _).trans hw); clear hw f4))
  · exact bodyPost_ret (v := .tuple #[tokV 0 ⟨#[]⟩ 0 0, .int .i64 0, .bool false]) (by simp [results, Tryz.results82, go_sem, z0, z1, z2, z3]) rfl ⟨rfl, set4_ext (unhide H) _ (Nat.le_refl _) _ _ _ _⟩
  · exact bodyPost_ret (v := .tuple #[tokV k t n o, .int .i64 m, .bool true]) (by simp [results, Tryz.results82, go_sem, z0, z1, z2, z3]) rfl ⟨rfl, set4_ext (unhide H) _ (Nat.le_refl _) _ _ _ _⟩

set_option maxHeartbeats 1000000 in
theorem token_op (s : ByteArray) (o : Nat) (w : World) (ho : o < s.size) (hs : s.size ≤ 140737488355328) (hd : dg s[o] = false) (hn : nm s[o] = false) (hq : ¬ s[o].toNat = 34) (T : Option (Int × ByteArray × Int × Nat)) (hT : ∀ W, Ext w W → Tells 115 s o W T) : Tells 82 s o w T := by
  have HC := hide (fun W (h : Ext w W) => hT W h)
  unfold Tells at *
  clear hT
  have b1 : ((s[o].toNat : Int) == 34) = false := by simp; omega
  clear hq
  rcases T with _ | ⟨k, t, n, m⟩
  all_goals
    go_enter Tryz.func82, Tryz.ntmps82
    go_wp2_with (first
      | (go_at_call 110; refine Calls.mono (isDigit_any _ _) ?_; rintro e w1 ⟨rfl, rfl⟩)
      | (go_at_call 112; refine Calls.mono (inName_any _ _) ?_; rintro e w1 ⟨rfl, rfl⟩)
      | (go_at_call 115; refine Calls.mono (unhide HC _ (Ext.alloc _ _)) ?_; rintro e w1 ⟨rfl, hw⟩; have f4 := (Four.new _ _ _ _ _ _).on hw; have z0 := f4.c0; have z1 := f4.c1; have z2 := f4.c2; have z3 := f4.c3; have zf := f4.fz; have H := hide ((Ext.alloc _ _).trans hw); clear hw f4))
  · exact bodyPost_ret (v := .tuple #[tokV 0 ⟨#[]⟩ 0 0, .int .i64 0, .bool false]) (by simp [results, Tryz.results82, go_sem, z0, z1, z2, z3]) rfl ⟨rfl, set4_ext (unhide H) _ (Nat.le_refl _) _ _ _ _⟩
  · exact bodyPost_ret (v := .tuple #[tokV k t n o, .int .i64 m, .bool true]) (by simp [results, Tryz.results82, go_sem, z0, z1, z2, z3]) rfl ⟨rfl, set4_ext (unhide H) _ (Nat.le_refl _) _ _ _ _⟩

theorem token_any (s : ByteArray) (o : Nat) (w : World) (ho : o < s.size) (hs : s.size ≤ 140737488355328) (he : Er w) : Tells 82 s o w (tokT s o) := by
  unfold tokT
  rw [L_get s o ho]
  show Tells _ s o w (if dg s[o] = true then _ else _)
  cases hd : dg s[o] with
  | true => rw [if_pos rfl]; exact token_num s o w ho hs hd _ fun W h => number_any s o W ho hs hd (he.on h)
  | false =>
    rw [if_neg (by decide)]
    cases hn : nm s[o] with
    | true => rw [if_pos rfl]; exact token_name s o w ho hs hd hn _ fun W h => name_any s o W (by omega) hs
    | false =>
      rw [if_neg (by decide)]
      by_cases hq : s[o].toNat = 34
      · rw [if_pos hq]; exact token_text s o w ho hs hd hn hq _ fun W h => text_any s o W ho hs
      · rw [if_neg hq]; exact token_op s o w ho hs hd hn hq _ fun W h => op_any s o W ho hs

theorem txF_pos : ∀ (f : Nat) (l : List UInt8) (p : List UInt8 × Nat), txF f l = some p → 1 ≤ p.2 ∧ p.2 ≤ l.length := by
  intro f
  induction f with
  | zero => intro l p h; simp [txF] at h
  | succ f ih =>
    intro l p h
    cases l with
    | nil => simp [txF] at h
    | cons c r =>
      rw [txF] at h
      split at h
      · cases h
      · split at h
        · cases h; simp
        · split at h
          · cases h
          · obtain ⟨q, hq, rfl⟩ := Option.map_eq_some_iff.1 h
            have := ih _ _ hq
            have h2 := sg_le (c :: r)
            rw [List.length_drop] at this
            simp only [] at *
            omega

/-- A word is not empty, and ends within the text. -/
theorem tok_lt (s : ByteArray) (o : Nat) (k : Int) (t : ByteArray) (n : Int) (m : Nat) (h : tokT s o = some (k, t, n, m)) : o < m ∧ m ≤ s.size := by
  unfold tokT at h
  by_cases ho : o < s.size
  · rw [L_get s o ho] at h
    replace h : (if dg s[o] = true then _ else _) = _ := h
    cases hd : dg s[o] with
    | true =>
      rw [hd, if_pos rfl] at h
      have h1 := (num_digits s o ho hd).1
      have h2 := nd_le s o
      unfold numT at h
      split at h
      · cases h
      · split at h
        · rename_i hi
          split at h
          · cases h
          · cases h
            by_cases hj : o + nd s o < s.size
            · omega
            · rw [isI_end s _ (by omega)] at hi; cases hi
        · split at h
          · cases h
          · cases h; omega
    | false =>
      rw [hd, if_neg (by decide)] at h
      cases hn : nm s[o] with
      | true =>
        rw [hn, if_pos rfl] at h
        have h1 : 1 ≤ run nm ((L s).drop o) := by rw [L_drop s o ho]; exact run_pos hn
        have h2 := run_le nm ((L s).drop o)
        rw [List.length_drop, L_len] at h2
        unfold nameT at h
        split at h
        · cases h
        · cases h; omega
      | false =>
        rw [hn, if_neg (by decide)] at h
        split at h
        · unfold textT at h
          obtain ⟨q, hq, e⟩ := Option.map_eq_some_iff.1 h
          cases e
          have := txF_pos _ _ _ hq
          rw [List.length_drop, L_len] at this
          omega
        · unfold opT at h
          have h2 := opL_le ((L s).drop o)
          rw [List.length_drop, L_len] at h2
          split at h
          · cases h
          · cases h; omega
  · rw [List.getElem?_eq_none (by rw [L_len]; omega)] at h
    cases h

/-- A word as plain data. -/
structure Tk where
  k : Int
  t : ByteArray
  n : Int
  o : Nat
def tkC (x : Tk) : List Value := [.int .i64 x.k, .string x.t, .int .i64 x.n, .int .i64 x.o]

/-- The words of a text from a place on; or some of them, and the place at which none begins. -/
def lexF : Nat → ByteArray → Nat → List Tk × Option Nat
  | 0, _, _ => ([], some 0)
  | f + 1, s, o => if s.size ≤ o + skp false ((L s).drop o) then ([], none) else
      match tokT s (o + skp false ((L s).drop o)) with
      | none => ([], some (o + skp false ((L s).drop o)))
      | some (k, t, n, m) => (⟨k, t, n, o + skp false ((L s).drop o)⟩ :: (lexF f s m).1, (lexF f s m).2)

end Go.Proofs.YtbcflcnkhhkogaaGreatDoor

namespace Go.Proofs.YtbcflcnkhhkogaaGreatDoor
open Go.RowKit

theorem add0 (g j : Nat) : (⟨g, 0, none⟩ : Addr).add j = ⟨g, j, none⟩ := by unfold Addr.add; split <;> simp_all
theorem cells_new (w : World) (cs : Array Value) (t : TypeId) : ∀ j u, cs.toList[j]? = some u → (w.alloc (.cells cs t)).cell? ((⟨w.heap.size, 0, none⟩ : Addr).add j) = some u := by
  intro j u hu
  rw [add0]
  exact cell_box w cs t j (by simpa using hu)
theorem size_alloc (w : World) (o : Obj) : (w.alloc o).heap.size = w.heap.size + 1 := Array.size_push ..
theorem cells_new2 (w : World) (o : Obj) (cs : Array Value) (t : TypeId) : ∀ j u, cs.toList[j]? = some u → ((w.alloc o).alloc (.cells cs t)).cell? ((⟨w.heap.size + 1, 0, none⟩ : Addr).add j) = some u := by
  have := cells_new (w.alloc o) cs t
  rw [size_alloc] at this
  exact this
theorem ext_grown {a b : World} {r : Option Nat} (h : Ext a b) : a.grownBy b r := ⟨h.os, h.tape, h.output, h.size, fun k hk _ => h.block k hk⟩
theorem own_ext {a b : World} {base : Nat} {e : TypeId} {size : Nat} {v : Value} {n : Nat} {xs : List Value} (h : a.ownsRow base e size v n xs) (k : Ext a b) : b.ownsRow base e size v n xs :=
  h.kept (ext_grown (r := none) k) (by cases v.ownBlock with | none => exact Or.inl rfl | some x => exact Or.inr (by simp))
theorem infoTok : (Tryz.prog.info? 110).map (fun i => (i.zero, i.size, i.bytes)) = some (some (tokV 0 ⟨#[]⟩ 0 0), 4, 40) := by kernel_rfl

/-- What holds at the label: the words so far, in a row of the call's own. -/
structure LI (s : ByteArray) (W wr : World) (k f : Nat) (acc : List Tk) (v : Value) : Prop where
  eq : lexF (s.size + 1) s 0 = (acc ++ (lexF f s k).1, (lexF f s k).2)
  fuel : s.size - k < f
  len : acc.length ≤ k
  own : wr.ownsRow W.heap.size 110 4 v acc.length (acc.flatMap tkC)
  ext : Ext W wr

theorem LI.start (s : ByteArray) (W : World) : LI s W W 0 (s.size + 1) [] (.slice none 0 0) :=
  ⟨by simp, by omega, Nat.le_refl _, World.ownsRow_nil W _ _ _, Ext.refl _⟩

theorem LI.done {s : ByteArray} {W wr : World} {k f : Nat} {acc : List Tk} {v : Value} (h : LI s W wr k f acc v) (hb : s.size ≤ k + skp false ((L s).drop k)) : lexF (s.size + 1) s 0 = (acc, none) := by
  have hf := h.fuel
  obtain ⟨g, rfl⟩ : ∃ g, f = g + 1 := ⟨f - 1, by omega⟩
  rw [h.eq, lexF, if_pos hb]
  simp

theorem LI.bad {s : ByteArray} {W wr : World} {k f : Nat} {acc : List Tk} {v : Value} (h : LI s W wr k f acc v) (hb : k + skp false ((L s).drop k) < s.size) (ht : tokT s (k + skp false ((L s).drop k)) = none) : lexF (s.size + 1) s 0 = (acc, some (k + skp false ((L s).drop k))) := by
  have hf := h.fuel
  obtain ⟨g, rfl⟩ : ∃ g, f = g + 1 := ⟨f - 1, by omega⟩
  rw [h.eq, lexF, if_neg (by omega), ht]
  simp

theorem LI.next {s : ByteArray} {W wr w1 w2 : World} {k f : Nat} {acc : List Tk} {v v' : Value} {kd : Int} {t : ByteArray} {n : Int} {m : Nat} (h : LI s W wr k f acc v) (hb : k + skp false ((L s).drop k) < s.size) (ht : tokT s (k + skp false ((L s).drop k)) = some (kd, t, n, m))
    (hx : Ext wr w1) (hown' : w2.ownsRow W.heap.size 110 4 v' (acc.length + 1) (acc.flatMap tkC ++ [.int .i64 kd, .string t, .int .i64 n, .int .i64 ((k + skp false ((L s).drop k) : Nat) : Int)])) (hgrow : w1.grownBy w2 v.ownBlock) :
    LI s W w2 m (f - 1) (acc ++ [⟨kd, t, n, k + skp false ((L s).drop k)⟩]) v' := by
  have hf := h.fuel
  have hm := tok_lt s _ _ _ _ _ ht
  refine ⟨?_, by omega, ?_, ?_, ?_⟩
  · obtain ⟨g, rfl⟩ : ∃ g, f = g + 1 := ⟨f - 1, by omega⟩
    rw [h.eq, lexF, if_neg (by omega), ht]
    simp
  · rw [List.length_append]; have := h.len; simp; omega
  · rw [List.length_append, List.flatMap_append]; exact hown'
  · refine Below.grown (h.ext.trans hx) hgrow (h.ext.trans hx).le ?_
    intro j hj
    obtain ⟨_, h | ⟨g, cap, cur, h, hg, _⟩⟩ := h.own
    · rw [h.1] at hj; cases hj
    · rw [h] at hj; cases hj; exact hg

/-- What Tokens answers, in a row of the call's own. -/
def ToksIn (s : ByteArray) (w : World) (e : Ending) (w' : World) : Prop :=
  (4000 < s.size ∧ e = .returned (.tuple #[.slice none 0 0, .int .i64 0, .int .i64 2]) ∧ Ext w w') ∨
  (s.size ≤ 4000 ∧ ∃ b, (lexF (s.size + 1) s 0).2 = some b ∧ e = .returned (.tuple #[.slice none 0 0, .int .i64 (b : Nat), .int .i64 10]) ∧ Ext w w') ∨
  (s.size ≤ 4000 ∧ (lexF (s.size + 1) s 0).2 = none ∧ ∃ v, e = .returned (.tuple #[v, .int .i64 0, .int .i64 0]) ∧ w'.ownsRow w.heap.size 110 4 v (lexF (s.size + 1) s 0).1.length ((lexF (s.size + 1) s 0).1.flatMap tkC) ∧ Ext w w')

set_option maxHeartbeats 4000000 in
theorem tokens_any (s : ByteArray) (w : World) (he : Er w) (hmax : s.size ≤ 140737488355328) :
    Calls Tryz.prog 39 #[.string s] w (ToksIn s w) := by
  by_cases hs : 4000 < s.size
  · go_enter Tryz.func39, Tryz.ntmps39
    go_wp2
    go_step3
    go_wp2
    try rw [Exit.noGoto_ret]
    go_ret3
    exact Or.inl ⟨hs, rfl, Ext.refl _⟩
  · have hs : s.size ≤ 4000 := by omega
    clear hmax
    obtain ⟨i0, hi, hz0, hz1, hz2⟩ := info_parts infoTok
    have HI := hide hi
    have Z0 := hide hz0
    have Z1 := hide hz1
    have Z2 := hide hz2
    have HE := hide he
    clear hi hz0 hz1 hz2 he
    obtain ⟨PQ, hPQ⟩ : ∃ PQ : Ending → World → Prop, PQ = ToksIn s w := ⟨_, rfl⟩
    rw [← hPQ]
    have HPQ := hide hPQ
    clear hPQ
    go_enter Tryz.func39, Tryz.ntmps39
    go_wp2
    refine wp_scope_loop 0 (fun a' wr => ∃ (k : Nat) (i : Int) (f : Nat) (acc : List Tk) (v : Value) (u5 u6 u7 u8 u9 u10 u11 u12 u13 u14 u15 u16 u17 u18 u19 u20 u21 u22 u23 u24 u25 u26 u27 u28 u29 u30 u31 u32 u33 : Value), a' = { tmps := #[.string s, undef, v, .int .i64 i, .int .i64 0, u5, u6, u7, u8, u9, u10, u11, u12, u13, u14, u15, u16, u17, u18, u19, u20, u21, u22, u23, u24, u25, u26, u27, u28, u29, u30, u31, u32, u33], defers := [] } ∧ i = k ∧ k ≤ s.size ∧ Hd (LI s w wr k f acc v)) (fun a' _ => s.size - (intOf (a'.tmps.getD 3 undef)).toNat) rfl ?_ ?_
    · rintro a' wr ⟨k, i, f, acc, v, u5, u6, u7, u8, u9, u10, u11, u12, u13, u14, u15, u16, u17, u18, u19, u20, u21, u22, u23, u24, u25, u26, u27, u28, u29, u30, u31, u32, u33, rfl, rfl, hk, hI⟩
      have HB := hide (fun W => begin_any s k W hk (by omega))
      have hle := skp_le ((L s).drop k) false
      rw [List.length_drop, L_len] at hle
      by_cases hb : s.size ≤ k + skp false ((L s).drop k)
      · have hD := hide ((unhide hI).done hb)
        have hend : ((k : Int) + (skp false ((L s).drop k) : Nat) == (s.size : Int)) = true := by simp; omega
        clear hb
        generalize skp false ((L s).drop k) = j at hle HB hend
        go_wp2_with (go_at_call 81; refine Calls.mono (unhide HB _) ?_; rintro e w1 ⟨rfl, hw⟩; obtain rfl := hw.symm)
        simp only [Exit.jump]
        go_ret3
        rw [unhide HPQ]
        have D := unhide hD
        refine Or.inr (Or.inr ⟨hs, by rw [D], v, rfl, ?_, (unhide hI).ext⟩)
        rw [D]
        exact (unhide hI).own
      · have hend : ((k : Int) + (skp false ((L s).drop k) : Nat) == (s.size : Int)) = false := by simp; omega
        have hlt : k + skp false ((L s).drop k) < s.size := by omega
        have HT := hide (fun W (x : Ext w W) => token_any s (k + skp false ((L s).drop k)) W hlt (by omega) ((unhide HE).on x))
        clear hb
        cases hT : tokT s (k + skp false ((L s).drop k)) with
        | none =>
          have hD := hide ((unhide hI).bad hlt hT)
          rw [hT] at HT
          clear hT
          unfold Tells at HT
          generalize skp false ((L s).drop k) = j at hle HB HT hD hlt hend
          go_wp2_with (first
            | (go_at_call 81; refine Calls.mono (unhide HB _) ?_; rintro e w1 ⟨rfl, hw⟩; obtain rfl := hw.symm)
            | (go_at_call 82; refine Calls.mono (unhide HT _ (unhide hI).ext) ?_; rintro e w1 ⟨rfl, hw⟩; have X1 := hide ((unhide hI).ext.trans hw); clear hw))
          simp only [Exit.jump]
          go_ret3
          rw [unhide HPQ]
          exact Or.inr (Or.inl ⟨hs, _, by rw [unhide hD], rfl, (unhide X1).trans (Ext.alloc _ _)⟩)
        | some q =>
          obtain ⟨kd, t, n, m⟩ := q
          have hm := tok_lt s _ _ _ _ _ hT
          have HN := hide (fun v' w1 w2 => (unhide hI).next (v' := v') (w1 := w1) (w2 := w2) hlt hT)
          rw [hT] at HT
          clear hT
          unfold Tells at HT
          generalize skp false ((L s).drop k) = j at hle HB HT HN hm hlt hend
          go_wp2_with (first
            | (go_at_call 81; refine Calls.mono (unhide HB _) ?_; rintro e w1 ⟨rfl, hw⟩; obtain rfl := hw.symm)
            | (go_at_call 82; refine Calls.mono (unhide HT _ (unhide hI).ext) ?_; rintro e w1 ⟨rfl, hw⟩; have X1 := hide hw; clear hw)
            | (at_builtin; refine wpList_append_own _ rfl _ _ 50 rfl w.heap.size 110 i0 (tokV 0 ⟨#[]⟩ 0 0) 4 40 Tryz.underlying50 (unhide HI) (unhide Z0) (unhide Z1) (unhide Z2) rfl (by decide) _ _ _ rfl (((own_ext (unhide hI).own (unhide X1)).alloc _).alloc _) ⟨w1.heap.size + 1, 0, none⟩ 1 1 [.int .i64 kd, .string t, .int .i64 n, .int .i64 ((k : Int) + (j : Int))] rfl rfl (cells_new2 _ _ _ _) ?c2 ?c3 ?c4 ?c5 ?_))
          case c2 => intro u hu; simp at hu; rcases hu with rfl | rfl | rfl | rfl <;> rfl
          case c3 => have := (unhide hI).len; unfold maxLen; omega
          case c4 => have := (unhide hI).len; omega
          case c5 => have := ((unhide hI).ext.trans (unhide X1)).le; simp; omega
          intro v' w2 hown' hgrow _
          have R := hide (unhide HN v' _ w2 (((unhide X1).trans (Ext.alloc _ _)).trans (Ext.alloc _ _)) hown' hgrow)
          clear hown' hgrow HN
          go_wp2
          go_step3
          refine ⟨rfl, ⟨m, _, _, _, _, _, _, _, _, _, _, _, _, _, _, _, _, _, _, _, _, _, _, _, _, _, _, _, _, _, _, _, _, _, rfl, rfl, by omega, R⟩, ?_⟩
          simp [intOf]
          omega
    · intro H
      have HH := hide H
      clear H
      have hst := hide (LI.start s w)
      go_wp2
      refine wp_label ?_
      rename_i hK
      exact hK _ _ (unhide HH _ _ ⟨0, _, _, _, _, _, _, _, _, _, _, _, _, _, _, _, _, _, _, _, _, _, _, _, _, _, _, _, _, _, _, _, _, _, rfl, by omega, by omega, hst⟩)

end Go.Proofs.YtbcflcnkhhkogaaGreatDoor
