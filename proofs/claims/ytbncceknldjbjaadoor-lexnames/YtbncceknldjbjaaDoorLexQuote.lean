/- Words between quotes. -/
import Derived.Test.YtbncceknldjbjaaDoorLexTok
import Derived.OwnWalk
import Derived.Laws.BytesString
set_option linter.unusedSimpArgs false
set_option linter.unusedVariables false
set_option maxRecDepth 10000
namespace Go.Proofs.YtbncceknldjbjaaDoor
open Go.RowKit

/-- A byte's cell. -/
def B (c : UInt8) : Value := .int .u8 c.toNat

theorem fold_push (l : List UInt8) (r : ByteArray) : (l.map fun c => (c.toNat : Int)).foldl (fun r n => r.push (UInt8.ofNat n.toNat)) r = ⟨r.data ++ l.toArray⟩ := by
  induction l generalizing r with
  | nil => simp
  | cons c t ih =>
    simp only [List.map_cons, List.foldl_cons, Int.toNat_natCast, UInt8.ofNat_toNat]
    rw [ih]
    apply ByteArray.ext
    simp [ByteArray.push]

theorem text_of_nil (w : World) : (convert 37 9 (.slice none 0 0)).run Tryd.prog w = .ok (.string ⟨#[]⟩) w := by kernel_rfl

/-- A row of bytes of the call's own, made a text. -/
theorem run_text_of_row {w : World} {base : Nat} {v : Value} {l : List UInt8} (h : w.ownsRow base 5 1 v l.length (l.map B)) :
    (convert 37 9 v).run Tryd.prog w = .ok (.string ⟨l.toArray⟩) w := by
  obtain ⟨hl, ⟨rfl, h0⟩ | ⟨g, cap, cur, rfl, hg, hrow, _⟩⟩ := id h
  · obtain rfl := List.length_eq_zero_iff.1 h0
    exact text_of_nil w
  · rw [run_convert_bytes_string w 37 9 5 _ _ _ Tryd.underlying37 Tryd.underlying5 Tryd.underlying9]
    rw [run_bytesToString w ⟨g, 0, none⟩ l.length cap (l.map fun c => (c.toNat : Int)) ?_]
    · rw [fold_push]; simp
    · have hm : (l.map fun c => (c.toNat : Int)).map (Value.int .u8) = l.map B := by rw [List.map_map]; rfl
      rw [hm]
      have := run_loadCells_list (P := Tryd.prog) (w := w) ⟨g, 0, none⟩ (l.map B) (fun j u hj => by
        have hlt : j < (l.map B).length := by
          rcases Nat.lt_or_ge j (l.map B).length with q | q
          · exact q
          · rw [List.getElem?_eq_none q] at hj; cases hj
        have := h.cellAt j (by simpa using hlt)
        rw [hj] at this
        have ea : (⟨g, 0, none⟩ : Addr).add j = ⟨g, j, none⟩ := by cases j <;> simp [Addr.add]
        rw [ea]; exact this)
      rw [List.length_map] at this
      exact this
theorem info5 : (Tryd.prog.info? 5).map (fun i => (i.zero, i.size, i.bytes)) = some (some (.int .u8 0), 1, 1) := by kernel_rfl

/-- What stands from behind a quote on: what it tells, and how long it is, the end's quote with it. -/
def txF : Nat → List UInt8 → Option (List UInt8 × Nat)
  | 0, _ => none
  | _ + 1, [] => none
  | f + 1, c :: r => if c.toNat = 10 then none else if c.toNat = 34 then some ([], 1) else if (sg (c :: r)).2 = 0 then none
      else (txF f ((c :: r).drop (sg (c :: r)).2)).map fun p => ((sg (c :: r)).1 :: p.1, (sg (c :: r)).2 + p.2)

theorem sg_le (l : List UInt8) : (sg l).2 ≤ l.length := by
  match l with
  | [] => exact Nat.le_refl _
  | [c] => rw [sg]; split <;> simp
  | c :: d :: r => rw [sg]; split <;> (try split) <;> (try split) <;> simp

/-- The text that stands at a place. -/
def textT (s : ByteArray) (o : Nat) : Option (Int × ByteArray × Int × Nat) :=
  (txF (s.size + 1) ((L s).drop (o + 1))).map fun p => (5, ⟨p.1.toArray⟩, 0, o + 1 + p.2)

/-- What holds at the label: what was told so far, in a row of the call's own. -/
structure TI (s : ByteArray) (o : Nat) (W wr : World) (k f : Nat) (acc : List UInt8) (v : Value) : Prop where
  lo : o + 1 ≤ k
  eq : txF (s.size + 1) ((L s).drop (o + 1)) = (txF f ((L s).drop k)).map fun p => (acc ++ p.1, (k - (o + 1)) + p.2)
  fuel : s.size - k < f
  len : acc.length ≤ k
  own : wr.ownsRow W.heap.size 5 1 v acc.length (acc.map B)
  ext : Ext W wr

theorem TI.start (s : ByteArray) (o : Nat) (W : World) : TI s o W W (o + 1) (s.size + 1) [] (.slice none 0 0) := by
  refine ⟨Nat.le_refl _, ?_, by omega, Nat.zero_le _, World.ownsRow_nil W _ _ _, Ext.refl _⟩
  simp

theorem TI.next {s : ByteArray} {o : Nat} {W wr w1 : World} {k f : Nat} {acc : List UInt8} {v v' : Value} {ca : Array Value} {e : TypeId} (h : TI s o W wr k f acc v) (hk : k < s.size) (h10 : ¬ s[k].toNat = 10) (h34 : ¬ s[k].toNat = 34) (h0 : ¬ (sg ((L s).drop k)).2 = 0)
    (hown' : w1.ownsRow W.heap.size 5 1 v' (acc.length + 1) (acc.map B ++ [.int .u8 (sg ((L s).drop k)).1.toNat])) (hgrow : (wr.alloc (.cells ca e)).grownBy w1 v.ownBlock) :
    TI s o W w1 (k + (sg ((L s).drop k)).2) (f - 1) (acc ++ [(sg ((L s).drop k)).1]) v' := by
  have hlo := h.lo
  have hf := h.fuel
  refine ⟨by omega, ?_, by omega, ?_, ?_, ?_⟩
  · obtain ⟨g, rfl⟩ : ∃ g, f = g + 1 := ⟨f - 1, by omega⟩
    rw [h.eq, L_drop s k hk, txF, if_neg h10, if_neg h34]
    rw [L_drop s k hk] at h0
    rw [if_neg h0, ← L_drop s k hk, List.drop_drop, Nat.add_sub_cancel, Option.map_map]
    congr 1
    funext p
    simp only [Function.comp, List.append_assoc, List.singleton_append, Prod.mk.injEq, true_and]
    omega
  · rw [List.length_append]; have := h.len; simp; omega
  · rw [List.length_append, List.map_append]; exact hown'
  · refine (Below.alloc h.ext h.ext.le _).grown hgrow (by have := h.ext.le; simp; omega) ?_
    intro j hj
    obtain ⟨_, h | ⟨g, cap, cur, h, hg, _⟩⟩ := h.own
    · rw [h.1] at hj; cases hj
    · rw [h] at hj; cases hj; exact hg

theorem TI.stop {s : ByteArray} {o : Nat} {W wr : World} {k f : Nat} {acc : List UInt8} {v : Value} (h : TI s o W wr k f acc v) (hk : s.size ≤ k) : textT s o = none := by
  unfold textT
  rw [h.eq, L_end s k hk]
  cases f <;> rfl

theorem TI.bad {s : ByteArray} {o : Nat} {W wr : World} {k f : Nat} {acc : List UInt8} {v : Value} (h : TI s o W wr k f acc v) (hk : k < s.size) (hb : s[k].toNat = 10 ∨ (¬ s[k].toNat = 34 ∧ (sg ((L s).drop k)).2 = 0)) : textT s o = none := by
  unfold textT
  have hf := h.fuel
  obtain ⟨g, rfl⟩ : ∃ g, f = g + 1 := ⟨f - 1, by omega⟩
  rw [h.eq, L_drop s k hk, txF]
  by_cases h10 : s[k].toNat = 10
  · rw [if_pos h10]; rfl
  · rcases hb with hb | ⟨h34, h0⟩
    · exact absurd hb h10
    · rw [L_drop s k hk] at h0
      rw [if_neg h10, if_neg h34, if_pos h0]; rfl

theorem TI.good {s : ByteArray} {o : Nat} {W wr : World} {k f : Nat} {acc : List UInt8} {v : Value} (h : TI s o W wr k f acc v) (hk : k < s.size) (h34 : s[k].toNat = 34) : textT s o = some (5, ⟨acc.toArray⟩, 0, k + 1) := by
  unfold textT
  have hf := h.fuel
  have hlo := h.lo
  obtain ⟨g, rfl⟩ : ∃ g, f = g + 1 := ⟨f - 1, by omega⟩
  rw [h.eq, L_drop s k hk, txF, if_neg (by omega), if_pos h34]
  simp
  omega

set_option maxHeartbeats 4000000 in
theorem text_any (s : ByteArray) (o : Nat) (w : World) (ho : o < s.size) (hs : s.size ≤ 140737488355328) : Tells 29 s o w (textT s o) := by
  unfold Tells
  obtain ⟨i0, hi, hz0, hz1, hz2⟩ := info_parts info5
  have HI := hide hi
  have Z0 := hide hz0
  have Z1 := hide hz1
  have Z2 := hide hz2
  have F0 := hide (Four.new w 31 0 ⟨#[]⟩ 0 0)
  clear hi hz0 hz1 hz2
  obtain ⟨W0, hW0⟩ : ∃ W0, W0 = (w.alloc (.cells #[.int .i64 0, .string ⟨#[]⟩, .int .i64 0, .int .i64 0] 31)) := ⟨_, rfl⟩
  have HW := hide hW0
  have hsz : Hd (W0.heap.size = w.heap.size + 1) := by rw [hW0]; exact (Array.size_push ..)
  rw [← hW0] at F0
  clear hW0
  obtain ⟨T, hT⟩ : ∃ T, T = textT s o := ⟨_, rfl⟩
  rw [← hT]
  have HT := hide hT
  clear hT
  go_enter Tryd.func29, Tryd.ntmps29
  go_wp2
  rw [← unhide HW]
  refine wp_scope_loop 0 (fun a' wr => ∃ (k : Nat) (i : Int) (f : Nat) (acc : List UInt8) (v : Value) (u9 u10 u11 u12 u13 u14 u15 u16 u17 u18 u19 u20 u21 u22 u23 u24 u25 u26 u27 u28 u29 u30 u31 u32 u33 u34 u35 u36 u37 u38 u39 u40 u41 u42 u43 u44 u45 u46 u47 u48 u49 u50 u51 u52 u53 u54 u55 u56 : Value), a' = { tmps := #[.string s, .int .i64 o, undef, undef, .pointer (some ⟨w.heap.size, 0, none⟩), .int .i64 0, .bool false, v, .int .i64 i, u9, u10, u11, u12, u13, u14, u15, u16, u17, u18, u19, u20, u21, u22, u23, u24, u25, u26, u27, u28, u29, u30, u31, u32, u33, u34, u35, u36, u37, u38, u39, u40, u41, u42, u43, u44, u45, u46, u47, u48, u49, u50, u51, u52, u53, u54, u55, u56], defers := [] } ∧ i = k ∧ k ≤ s.size ∧ Hd (TI s o W0 wr k f acc v)) (fun a' _ => s.size - (intOf (a'.tmps.getD 8 undef)).toNat) rfl ?_ ?_
  · rintro a' wr ⟨k, i, f, acc, v, u9, u10, u11, u12, u13, u14, u15, u16, u17, u18, u19, u20, u21, u22, u23, u24, u25, u26, u27, u28, u29, u30, u31, u32, u33, u34, u35, u36, u37, u38, u39, u40, u41, u42, u43, u44, u45, u46, u47, u48, u49, u50, u51, u52, u53, u54, u55, u56, rfl, rfl, hk, hI⟩
    have XR : Hd (Ext W0 wr) := (unhide hI).ext
    have XW : Hd (Ext w W0) := by rw [unhide HW]; exact Ext.alloc _ _
    by_cases hlt : k < s.size
    · have hend : ((k : Int) == (s.size : Int)) = false := by simp; omega
      by_cases h10 : s[k].toNat = 10
      · have b1 : ((s[k].toNat : Int) == 10) = true := by simp; omega
        have hn : T = none := (unhide HT).trans ((unhide hI).bad hlt (Or.inl h10))
        subst hn
        clear HT h10
        go_wp2_with (go_at_call 32; refine Calls.mono (none_any _) ?_; rintro e w2 ⟨rfl, hw⟩; have f4 := (unhide F0).on ((unhide XR).trans hw); have z0 := f4.c0; have z1 := f4.c1; have z2 := f4.c2; have z3 := f4.c3; have zf := f4.fz; have H := hide (((unhide XW).trans (unhide XR)).trans hw); clear hw f4)
        simp only [Exit.jump]
        exact bodyPost_ret (v := .tuple #[tokV 0 ⟨#[]⟩ 0 0, .int .i64 0, .bool false]) (by simp [results, Tryd.results29, go_sem, z0, z1, z2, z3]) rfl ⟨rfl, set4_ext (unhide H) _ (Nat.le_refl _) _ _ _ _⟩
      · have b1 : ((s[k].toNat : Int) == 10) = false := by simp; omega
        by_cases h34 : s[k].toNat = 34
        · have b2 : ((s[k].toNat : Int) == 34) = true := by simp; omega
          have hn : T = _ := (unhide HT).trans ((unhide hI).good hlt h34)
          subst hn
          have hcv := run_text_of_row (unhide hI).own
          have f4 := (unhide F0).on (unhide XR)
          have z0 := f4.c0
          have z1 := f4.c1
          have z2 := f4.c2
          have z3 := f4.c3
          have zf := f4.fz
          clear HT h10 h34 f4
          go_wp2_with (simp only [hcv])
          simp only [Exit.jump]
          exact bodyPost_ret (v := .tuple #[tokV 5 ⟨acc.toArray⟩ 0 o, .int .i64 (k + 1), .bool true]) (by simp [results, Tryd.results29, go_sem, z0, z1, z2, z3]) rfl ⟨rfl, set4_ext ((unhide XW).trans (unhide XR)) _ (Nat.le_refl _) _ _ _ _⟩
        · have b2 : ((s[k].toNat : Int) == 34) = false := by simp; omega
          have HS := hide (fun W => sign_any (s.extract k s.size) W (by rw [tail_size]; omega) (by rw [tail_size]; omega))
          rw [tail_L] at HS
          have hsl := sg_le ((L s).drop k)
          rw [List.length_drop, L_len] at hsl
          by_cases h0 : (sg ((L s).drop k)).2 = 0
          · have hn : T = none := (unhide HT).trans ((unhide hI).bad hlt (Or.inr ⟨h34, h0⟩))
            subst hn
            rw [h0] at HS
            clear HT h10 h34 h0 hsl
            go_wp2_with (first
              | (go_at_call 35; refine Calls.mono (unhide HS _) ?_; rintro e w1 ⟨rfl, rfl⟩)
              | (go_at_call 32; refine Calls.mono (none_any _) ?_; rintro e w2 ⟨rfl, hw⟩; have f4 := (unhide F0).on ((unhide XR).trans hw); have z0 := f4.c0; have z1 := f4.c1; have z2 := f4.c2; have z3 := f4.c3; have zf := f4.fz; have H := hide (((unhide XW).trans (unhide XR)).trans hw); clear hw f4))
            simp only [Exit.jump]
            exact bodyPost_ret (v := .tuple #[tokV 0 ⟨#[]⟩ 0 0, .int .i64 0, .bool false]) (by simp [results, Tryd.results29, go_sem, z0, z1, z2, z3]) rfl ⟨rfl, set4_ext (unhide H) _ (Nat.le_refl _) _ _ _ _⟩
          · have N10 := hide h10
            have N34 := hide h34
            have N0 := hide h0
            have hN := fun v' w1 ca e => (unhide hI).next (v' := v') (w1 := w1) (ca := ca) (e := e) hlt h10 h34 h0
            have HN := hide hN
            clear hN h10 h34 HT N10 N34
            have e0 : (((sg ((L s).drop k)).2 : Int) == 0) = false := by simp; omega
            generalize (sg ((L s).drop k)).2 = n at *
            generalize (sg ((L s).drop k)).1 = b at *
            go_wp2_with (first
              | (go_at_call 35; refine Calls.mono (unhide HS _) ?_; rintro e w1 ⟨rfl, hw⟩; obtain rfl := hw.symm)
              | (at_builtin; refine wpList_append_own _ rfl _ _ 37 rfl W0.heap.size 5 i0 (.int .u8 0) 1 1 Tryd.underlying37 (unhide HI) (unhide Z0) (unhide Z1) (unhide Z2) rfl (by decide) _ _ _ rfl ((unhide hI).own.alloc _) ⟨wr.heap.size, 0, none⟩ 1 1 [.int .u8 b.toNat] rfl rfl (cell_one_new _ _ _) ?c2 ?c3 ?c4 ?c5 ?_))
            case c2 => intro u hu; simp at hu; subst hu; rfl
            case c3 => have := (unhide hI).len; unfold maxLen; omega
            case c4 => have := (unhide hI).len; omega
            case c5 => have := (unhide XR).le; simp; omega
            intro v' w1 hown' hgrow _
            have R := hide (unhide HN v' w1 _ _ hown' hgrow)
            clear hown' hgrow HN
            go_wp2
            go_step3
            refine ⟨rfl, ⟨k + n, _, _, _, _, _, _, _, _, _, _, _, _, _, _, _, _, _, _, _, _, _, _, _, _, _, _, _, _, _, _, _, _, _, _, _, _, _, _, _, _, _, _, _, _, _, _, _, _, _, _, _, _, rfl, by omega, by omega, R⟩, ?_⟩
            simp [intOf]
            omega
    · have hend : ((k : Int) == (s.size : Int)) = true := by simp; omega
      have hn : T = none := (unhide HT).trans ((unhide hI).stop (by omega))
      subst hn
      clear HT
      go_wp2_with (go_at_call 32; refine Calls.mono (none_any _) ?_; rintro e w2 ⟨rfl, hw⟩; have f4 := (unhide F0).on ((unhide XR).trans hw); have z0 := f4.c0; have z1 := f4.c1; have z2 := f4.c2; have z3 := f4.c3; have zf := f4.fz; have H := hide (((unhide XW).trans (unhide XR)).trans hw); clear hw f4)
      simp only [Exit.jump]
      exact bodyPost_ret (v := .tuple #[tokV 0 ⟨#[]⟩ 0 0, .int .i64 0, .bool false]) (by simp [results, Tryd.results29, go_sem, z0, z1, z2, z3]) rfl ⟨rfl, set4_ext (unhide H) _ (Nat.le_refl _) _ _ _ _⟩
  · intro H
    have HH := hide H
    clear H
    have hst := hide (TI.start s o W0)
    go_wp2
    refine wp_label ?_
    rename_i hK
    exact hK _ _ (unhide HH _ _ ⟨o + 1, _, _, _, _, _, _, _, _, _, _, _, _, _, _, _, _, _, _, _, _, _, _, _, _, _, _, _, _, _, _, _, _, _, _, _, _, _, _, _, _, _, _, _, _, _, _, _, _, _, _, _, _, rfl, by omega, by omega, hst⟩)

end Go.Proofs.YtbncceknldjbjaaDoor
