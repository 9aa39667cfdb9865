/- Two rows of the same numbers, or truths, are the same; a graph that is not too great. -/
import Derived.Test.YtpfjafjpijmckaaGrRow
import Derived.Test.YtpfjafjpijmckaaGrL0
set_option linter.unusedSimpArgs false
set_option linter.unusedVariables false
set_option maxRecDepth 10000
namespace Go.Proofs.Ytpfjafjpijmckaa
open Go.RowKit

theorem ext_drewS (w : World) (n : Nat) : Ext w (w.drewN n) := by
  induction n with
  | zero => exact Ext.refl _
  | succ n ih => exact Ext.drew ih

set_option maxHeartbeats 1000000 in
theorem sameInts_w (l : List Int) (a b : Option Addr) (ca cb : Nat) (F F' : Nat → Prop) (w : World) (h1 : RepI w F a l) (h2 : RepI w F' b l) (hl : l.length ≤ 1000000) :
    Calls Try.prog 11 #[.slice a l.length ca, .slice b l.length cb] w fun e w' => e = .returned (.bool true) ∧ Ext w w' := by
  go_enter Try.func11, Try.ntmps11
  go_wp2_with fail
  go_loopw [5] (fun t wr => ∃ j : Nat, t = .int .i64 j ∧ j ≤ l.length ∧ Hd (Ext w wr)) (fun t _ => l.length - (intOf t).toNat)
  case atStart => exact ⟨0, rfl, by omega, Ext.refl w⟩
  case round =>
    obtain ⟨j, rfl, hj, hw⟩ := hrel
    by_cases hlt : j < l.length
    · obtain ⟨x, hx⟩ : ∃ x, l[j]? = some x := ⟨_, List.getElem?_eq_getElem hlt⟩
      obtain ⟨b1, o1, rfl, _, c1⟩ := h1.at hx
      obtain ⟨b2, o2, rfl, _, c2⟩ := h2.at hx
      have d1 := (unhide hw).cell c1
      have d2 := (unhide hw).cell c2
      clear c1 c2 hx h1 h2
      go_wp2_with fail
      go_quiet (fail)
      go_wp2_with fail
      go_roundw
      case rel => exact ⟨j + 1, by go_num, by omega, (unhide hw).trans (ext_drewS _ _)⟩
      case measure => simp [intOf]; omega
    · have hje : j = l.length := by omega
      subst hje
      go_wp2_with fail
      go_ret
      exact ⟨rfl, unhide hw⟩

set_option maxHeartbeats 1000000 in
theorem bools_w (l : List Bool) (a b ca cb : Nat) (w : World) (h1 : Row w a 4 (bsV l)) (h2 : Row w b 4 (bsV l)) (hl : l.length ≤ 1000000) :
    Calls Try.prog 19 #[.slice (some ⟨a, 0, none⟩) l.length ca, .slice (some ⟨b, 0, none⟩) l.length cb] w fun e w' => e = .returned (.bool true) ∧ Ext w w' := by
  have H1 := hide h1
  have H2 := hide h2
  clear h1 h2
  go_enter Try.func19, Try.ntmps19
  go_wp2_with fail
  go_loopw [5] (fun t wr => ∃ j : Nat, t = .int .i64 j ∧ j ≤ l.length ∧ Hd (Ext w wr)) (fun t _ => l.length - (intOf t).toNat)
  case atStart => exact ⟨0, rfl, by omega, Ext.refl w⟩
  case round =>
    obtain ⟨j, rfl, hj, hw⟩ := hrel
    by_cases hlt : j < l.length
    · obtain ⟨x, hx⟩ : ∃ x, l[j]? = some x := ⟨_, List.getElem?_eq_getElem hlt⟩
      have d1 := (unhide hw).cell ((unhide H1).cell j (bs_at hx))
      have d2 := (unhide hw).cell ((unhide H2).cell j (bs_at hx))
      clear hx
      go_wp2_with fail
      go_quiet (fail)
      go_wp2_with fail
      cases x
      all_goals
        go_roundw
        case rel => exact ⟨j + 1, by go_num, by omega, (unhide hw).trans (ext_drewS _ _)⟩
        case measure => simp [intOf]; omega
    · have hje : j = l.length := by omega
      subst hje
      go_wp2_with fail
      go_ret
      exact ⟨rfl, unhide hw⟩

end Go.Proofs.Ytpfjafjpijmckaa

/- The Loops of a graph. -/
set_option linter.unusedSimpArgs false
set_option linter.unusedVariables false
set_option maxRecDepth 10000
namespace Go.Proofs.Ytpfjafjpijmckaa
open Go.RowKit

theorem k_infoL : ∃ i0, Try.prog.info? 43 = some i0 ∧ i0.zero = some (.agg #[.int .i64 0, .slice none 0 0, .int .i64 0]) ∧ i0.size = 3 ∧ i0.bytes = 40 := by
  have h : (Try.prog.info? 43).map (fun i => (i.zero, i.size, i.bytes)) = some (some (.agg #[.int .i64 0, .slice none 0 0, .int .i64 0]), 3, 40) := by kernel_rfl
  cases hi : Try.prog.info? 43 with
  | none => rw [hi] at h; cases h
  | some i =>
    rw [hi] at h
    simp at h
    exact ⟨i, rfl, h.1, h.2.1, h.2.2⟩
theorem one_gl (x : GL) (a : Option Addr × Nat) : ∀ u ∈ glC x a, u.oneCell' = true := by
  intro u hu
  simp [glC] at hu
  rcases hu with rfl | rfl | rfl <;> rfl

theorem gHeads_len : ∀ (hs : List Bool) (i : Nat) (pl : List (Option Nat)) (ls : List GL), (gHeads hs i pl ls).1.length = pl.length ∧ (gHeads hs i pl ls).2.length ≤ ls.length + hs.length
  | [], i, pl, ls => by rw [gHeads]; simp
  | false :: r, i, pl, ls => by
    rw [gHeads]
    have := gHeads_len r (i + 1) pl ls
    simp only [List.length_cons]
    omega
  | true :: r, i, pl, ls => by
    rw [gHeads]
    have := gHeads_len r (i + 1) (pl.set i (some ls.length)) (ls ++ [⟨i, [], none⟩])
    simp only [List.length_cons, List.length_append, List.length_set, List.length_nil] at this ⊢
    omega

/-- What Loops answers. -/
def LoopsE (w : World) (ls : List GL) (e : Ending) (w' : World) : Prop := ∃ w0 pb pl ads la lc, e = .returned (.slice la ls.length lc) ∧ Ext w w0 ∧ LpS w0 w' pb pl ls ads la lc

structure HeI (w0 wr : World) (pb : Nat) (n : Nat) (hs : List Bool) (j : Nat) (pl : List (Option Nat)) (ls : List GL) (R : List (Option Nat) × List GL) (ads : List (Option Addr × Nat)) (la : Option Addr) (lc : Nat) : Prop where
  S : LpS w0 wr pb pl ls ads la lc
  eq : gHeads (hs.drop j) j pl ls = R
  pn : pl.length = n
  ln : ls.length ≤ j
structure InI (w0 wr : World) (pb : Nat) (outer pl : List (Option Nat)) (m j : Nat) (ls F : List GL) (ads : List (Option Addr × Nat)) (la : Option Addr) (lc : Nat) : Prop where
  S : LpS w0 wr pb pl ls ads la lc
  eq : gIns outer pl (m - j) j ls = some F
  ln : ls.length = m
structure BoI (w0 wr : World) (pb : Nat) (K : Nat) (st : GN) (pl : List (Option Nat)) (n m p : Nat) (ls F : List GL) (ads : List (Option Addr × Nat)) (la : Option Addr) (lc : Nat) : Prop where
  S : LpS w0 wr pb pl ls ads la lc
  eq : gBods K st pl (n - p) p ls = some F
  ln : ls.length = m
  bd : ∀ x ∈ ls, x.body.length ≤ p * K
structure BiI (w0 wr : World) (pb : Nat) (outer pl : List (Option Nat)) (m p k Y : Nat) (h : Option Nat) (ls F : List GL) (ads : List (Option Addr × Nat)) (la : Option Addr) (lc : Nat) : Prop where
  S : LpS w0 wr pb pl ls ads la lc
  eq : gBod outer pl p k h ls = some F
  ln : ls.length = m
  bd : ∀ x ∈ ls, x.body.length + k ≤ Y

theorem gIns_len (outer pl : List (Option Nat)) : ∀ (k i : Nat) (ls F : List GL), gIns outer pl k i ls = some F → F.length = ls.length
  | 0, i, ls, F, h => by rw [gIns] at h; injection h with h; rw [h]
  | k + 1, i, ls, F, h => by
    rw [gIns] at h
    split at h
    · cases h
    · split at h
      · cases h
      · exact gIns_len outer pl k _ _ F h
      · split at h
        · cases h
        · have := gIns_len outer pl k _ _ F h
          rw [List.length_set] at this
          exact this
theorem gIns_body (outer pl : List (Option Nat)) : ∀ (k i : Nat) (ls F : List GL), gIns outer pl k i ls = some F → (∀ x ∈ ls, x.body = []) → ∀ x ∈ F, x.body = []
  | 0, i, ls, F, h, hb => by rw [gIns] at h; injection h with h; rw [← h]; exact hb
  | k + 1, i, ls, F, h, hb => by
    rw [gIns] at h
    split at h
    · cases h
    · rename_i x hx
      split at h
      · cases h
      · exact gIns_body outer pl k _ _ F h hb
      · split at h
        · cases h
        · refine gIns_body outer pl k _ _ F h (fun z hz => ?_)
          rcases List.mem_or_eq_of_mem_set hz with hz | hz
          · exact hb z hz
          · subst hz
            exact hb x (List.mem_of_getElem? hx)
theorem gHeads_body : ∀ (hs : List Bool) (i : Nat) (pl : List (Option Nat)) (ls : List GL), (∀ x ∈ ls, x.body = []) → ∀ x ∈ (gHeads hs i pl ls).2, x.body = []
  | [], i, pl, ls, hb => by rw [gHeads]; exact hb
  | false :: r, i, pl, ls, hb => by rw [gHeads]; exact gHeads_body r (i + 1) pl ls hb
  | true :: r, i, pl, ls, hb => by
    rw [gHeads]
    refine gHeads_body r (i + 1) _ _ (fun x hx => ?_)
    rcases List.mem_append.1 hx with hx | hx
    · exact hb x hx
    · rw [List.mem_singleton.1 hx]

set_option maxHeartbeats 16000000 in
theorem loops_w (ga : Option Addr) (gc : Nat) (g : List (List Int)) (w : World) (K D : Nat) (F : List GL) (hg : RepG w (In w) ga g) (hf : Few g) (hK : K ≤ 900000) (hD : ∀ l ∈ gPreds g, l.length ≤ D) (hKD : (K + 1) * D ≤ 100000000) (hgK : (g.length + 1) * K ≤ 100000000) (hF : gLoops g K = some F) :
    Calls Try.prog 12 #[.slice ga g.length gc] w (LoopsE w F) := by
  unfold gLoops at hF
  cases hn : gNest g K with
  | none => rw [hn] at hF; cases hF
  | some zs =>
  obtain ⟨z, st⟩ := zs
  rw [hn] at hF
  simp only at hF
  cases hh : gHeads st.heads 0 (List.replicate g.length none) [] with
  | mk pl0 ls0 =>
  rw [hh] at hF
  simp only at hF
  cases hi : gIns st.outer pl0 ls0.length 0 ls0 with
  | none => rw [hi] at hF; cases hF
  | some ls1 =>
  rw [hi] at hF
  simp only at hF
  have hgn : g.length ≤ 1000000 := hf.1
  have H1 := hide (nestOf_w ga gc g w K D z st hg hf hK hD hKD hn)
  have H2 := hide (fun W => noneOf_w ga g.length gc W hgn)
  have HIn := hide (fun (wp w0 W : World) (M Pb F1 L1 H O T lo hi : Nat) (oa : Option Addr) (oc p : Nat) (r : Option Nat) (hS : NsS wp w0 W M Pb F1 L1 H O T lo hi g.length z st oa oc) (h : gInm st p = some r) => innermost_w wp w0 W M Pb F1 L1 H O T lo hi g.length z st oa oc p r hS h)
  have HHq := hide hh
  have HIq := hide hi
  have HFq := hide hF
  have hl1 := gIns_len _ _ _ _ _ _ hi
  have hb0 : ∀ x ∈ ls0, x.body = [] := by
    have := gHeads_body st.heads 0 (List.replicate g.length none) [] (fun x hx => by cases hx)
    rw [hh] at this
    exact this
  have Hb1 := hide (gIns_body _ _ _ _ _ _ hi hb0)
  have hpl := (gHeads_len st.heads 0 (List.replicate g.length none) []).1
  rw [hh, List.length_replicate] at hpl
  obtain ⟨i0, hi0, hz0, hz1, hz2⟩ := k_infoL
  have HI := hide hi0
  have Z0 := hide hz0
  have Z1 := hide hz1
  have Z2 := hide hz2
  obtain ⟨j0, hj0, jz0, jz1, jz2⟩ := k_info
  have JI := hide hj0
  have J0 := hide jz0
  have J1 := hide jz1
  have J2 := hide jz2
  clear hg hf hn hh hi hF hi0 hz0 hz1 hz2 hj0 jz0 jz1 jz2 hD hb0
  go_enter Try.func12, Try.ntmps12
  go_wp2_with (first
    | (go_at_call 31; refine Calls.mono (unhide H1) ?_; rintro e w1 ⟨wp, wz, M, Pb, F1, L1, H, O, T, lo, hi, oa, oc, rfl, x1, s1⟩; have X1 := hide x1; have S1 := hide s1; clear x1 s1)
    | (go_at_call 29; refine Calls.mono (unhide H2 w1) ?_; rintro e w2 ⟨pb, rfl, b2, r2, x2⟩; have B2 := hide b2; have R2 := hide r2; have X2 := hide x2; have c3 : w2.cell? ⟨M, 3, none⟩ = some (slV H g.length) := x2.cell ((unhide S1).rM.cell 3 rfl); clear b2 r2 x2))
  have XX : Hd (Ext w w1) := (unhide X1).trans (unhide S1).ext
  have hhl := hide (unhide S1).len.2.2.2.1
  have hol := hide (unhide S1).len.2.2.2.2.1
  have HI0 : Hd (HeI w1 w2 pb g.length st.heads 0 (List.replicate g.length none) [] (pl0, ls0) [] none 0) := by
    refine ⟨⟨unhide X2, unhide B2, unhide R2, rfl, World.ownsRow_nil _ _ _ _, fun i x a h1 h2 => (by simp at h1), fun e => (by cases e), fun i a h => (by simp at h), fun i j a b _ h => (by simp at h)⟩, by rw [List.drop_zero]; exact unhide HHq, by simp, by simp⟩
  clear H1 H2 B2 R2 X2 HHq
  go_loopw [5, 22] (fun t5 t22 wr => ∃ (j : Nat) (pl : List (Option Nat)) (ls : List GL) (ads : List (Option Addr × Nat)) (la : Option Addr) (lc : Nat), t5 = .slice la ls.length lc ∧ t22 = .int .i64 (j : Int) ∧ j ≤ g.length ∧ Hd (HeI w1 wr pb g.length st.heads j pl ls (pl0, ls0) ads la lc)) (fun _ t _ => g.length - (intOf t).toNat)
  case atStart => exact ⟨0, _, [], [], none, 0, rfl, rfl, by omega, HI0⟩
  case round =>
    clear HI0 c3
    obtain ⟨j, pl, ls, ads, la, lc, rfl, rfl, hj, hI⟩ := hrel
    have hX := (unhide hI).S.ext
    by_cases hlt : j < g.length
    · have hjh : j < st.heads.length := by rw [unhide hhl]; exact hlt
      obtain ⟨b, hb⟩ : ∃ b, st.heads[j]? = some b := ⟨_, List.getElem?_eq_getElem hjh⟩
      have cb := hX.cell ((unhide S1).rH.cell j (bs_at hb))
      have heq := (unhide hI).eq
      rw [List.getElem?_eq_getElem hjh] at hb
      injection hb with hb
      rw [List.drop_eq_getElem_cons hjh, hb] at heq
      have hln := (unhide hI).ln
      have hpn := (unhide hI).pn
      cases b with
      | false =>
        rw [gHeads] at heq
        have HI' : Hd (HeI w1 wr pb g.length st.heads (j + 1) pl ls (pl0, ls0) ads la lc) := ⟨(unhide hI).S, heq, hpn, by omega⟩
        clear heq hb
        go_wp2_with fail
        go_roundw
        case rel => exact ⟨j + 1, pl, ls, ads, la, lc, rfl, by go_num, by omega, HI'⟩
        case measure => simp [intOf]; omega
      | true =>
        rw [gHeads] at heq
        obtain ⟨y, hy⟩ : ∃ y, pl[j]? = some y := ⟨_, List.getElem?_eq_getElem (by rw [hpn]; exact hlt)⟩
        have cy := (unhide hI).S.rP.cell j (os_at hy)
        have fy := k_rowF (unhide hI).S.rP j
        have HS1 := hide ((unhide hI).S.setP j (some ls.length))
        rw [show oI (some ls.length) = (ls.length : Int) from rfl] at HS1
        have HO : Hd (∀ ob, ((wr.setCell ⟨pb, j, none⟩ (.int .i64 (ls.length : Int))).alloc ob).ownsRow w1.heap.size 43 3 (.slice la ls.length lc) ls.length (lpC ls ads)) := fun ob => ((unhide HS1).on (Ext.alloc _ ob)).oL
        have HLe := hide (unhide HS1).ext.size
        have HZ : Hd ((wr.setCell ⟨pb, j, none⟩ (.int .i64 (ls.length : Int))).heap.size = wr.heap.size) := by simp [Hd, World.setCell]
        have HMore := hide (fun (w3 : World) (ob : Obj) (g' cap' : Nat) => (unhide HS1).more (w3 := w3) (ob := ob) (g' := g') (cap' := cap') j)
        have HEq := hide heq
        have hlt2 : (j : Int) < (g.length : Int) := by omega
        clear heq hb hy
        go_wp2_with (at_builtin; refine kapp_list rfl (.tmp 33) (.tmp 36) 26 rfl w1.heap.size 43 i0 (.agg #[.int .i64 0, .slice none 0 0, .int .i64 0]) 3 40 Try.underlying26 (unhide HI) (unhide Z0) (unhide Z1) (unhide Z2) rfl (by decide) la ls.length lc _ rfl (unhide HO _) ⟨wr.heap.size, 0, none⟩ 1 1 (glC ⟨j, [], none⟩ (none, 0)) rfl (by decide) rfl (k_new _ _ (unhide HZ).symm _ _) (one_gl _ _) ?c1 ?c2 ?c3 ?_)
        case c1 => unfold maxLen; omega
        case c2 => omega
        case c3 => exact Nat.le_trans (unhide HLe) (Ext.alloc _ _).size
        intro g' cap' w3 ho hgr hw
        have S3 := hide (unhide HMore w3 _ g' cap' hgr ho (hw.imp id (fun e => by have := unhide HZ; omega)))
        clear ho hgr hw
        go_wp2_with fail
        go_roundw
        case rel => exact ⟨j + 1, _, _, _, _, _, by first | rfl | simp, by go_num, by omega, ⟨unhide S3, unhide HEq, by rw [List.length_set]; exact hpn, by simp; omega⟩⟩
        case measure => simp [intOf]; omega
    · obtain rfl : j = g.length := by omega
      have HQ : Hd (pl = pl0 ∧ ls = ls0) := by
        have := (unhide hI).eq
        rw [List.drop_of_length_le (by rw [unhide hhl]; exact Nat.le_refl _), gHeads] at this
        simpa [Hd] using this
      obtain ⟨hq1, hq2⟩ := unhide HQ
      subst hq1 hq2
      clear HQ
      have hlm := (unhide hI).ln
      have HI1 : Hd (InI w1 wr pb st.outer pl ls.length 0 ls ls1 ads la lc) := ⟨(unhide hI).S, unhide HIq, rfl⟩
      obtain ⟨m, hm⟩ : ∃ m, ls.length = m := ⟨_, rfl⟩
      rw [hm] at HI1 hlm hl1 ⊢
      have hmg : m ≤ g.length := hlm
      clear hI hm HIq
      go_wp2_with fail
      go_loopw [41] (fun t41 wr => ∃ (j : Nat) (ls : List GL), t41 = .int .i64 (j : Int) ∧ j ≤ m ∧ Hd (InI w1 wr pb st.outer pl m j ls ls1 ads la lc)) (fun t _ => m - (intOf t).toNat)
      case atStart => exact ⟨0, _, rfl, by omega, HI1⟩
      case round =>
        clear HI1 hlm
        obtain ⟨j, ls, rfl, hj, hI⟩ := hrel
        have hX := (unhide hI).S.ext
        have hlm := (unhide hI).ln
        by_cases hlt : j < m
        · have heq := (unhide hI).eq
          rw [show m - j = m - (j + 1) + 1 by omega, gIns] at heq
          cases hx : ls[j]? with
          | none => rw [hx] at heq; cases heq
          | some x =>
          rw [hx] at heq
          simp only at heq
          obtain ⟨gl, a, rfl, hlc, ha, k0, k1, k2, kf⟩ := (unhide hI).S.at hx
          have c4 : wr.cell? ⟨M, 4, none⟩ = some (slV O g.length) := hX.cell ((unhide S1).rM.cell 4 rfl)
          cases ho : st.outer[x.head]? with
          | none => rw [ho] at heq; cases heq
          | some o =>
          rw [ho] at heq
          have hhn : (x.head : Int) < (g.length : Int) := by have := (List.getElem?_eq_some_iff.1 ho).1; rw [unhide hol] at this; omega
          have co := hX.cell ((unhide S1).rO.cell x.head (os_at ho))
          have hlt2 : (j : Int) < (m : Int) := by omega
          rw [hlm] at hlc
          cases o with
          | none =>
            simp only at heq
            rw [show oI none = -1 from rfl] at co
            have HS' := hide (fun N => (unhide hI).S.on (ext_drewN wr N))
            have HEq := hide heq
            clear heq hx ho ha
            generalize x.head = xh at *
            go_wp2_with fail
            go_quiet (fail)
            go_wp2_with fail
            go_roundw
            case rel => exact ⟨j + 1, ls, by go_num, by omega, ⟨unhide HS' _, unhide HEq, hlm⟩⟩
            case measure => simp [intOf]; omega
          | some o =>
            simp only at heq
            rw [show oI (some o) = (o : Int) from rfl] at co
            cases hy : pl[o]? with
            | none => rw [hy] at heq; cases heq
            | some y =>
            rw [hy] at heq
            simp only at heq
            have hon : (o : Int) < (g.length : Int) := by have := (List.getElem?_eq_some_iff.1 hy).1; omega
            have cy := (unhide hI).S.rP.cell o (os_at hy)
            have hne : ((o : Int) == -1) = false := by rw [beq_eq_false_iff_ne]; omega
            have HS' := hide (fun N => ((unhide hI).S.on (ext_drewN wr N)).setI hx y)
            have HEq := hide heq
            have k3 := kf (j * 3 + 2)
            clear heq hx ho hy ha kf
            generalize oI y = yy at *
            generalize x.head = xh at *
            generalize oI x.ins = xi at *
            go_wp2_with fail
            go_quiet (fail)
            go_wp2_with fail
            go_roundw
            case rel => exact ⟨j + 1, _, by go_num, by omega, ⟨unhide HS' _, unhide HEq, by rw [List.length_set]; exact hlm⟩⟩
            case measure => simp [intOf]; omega
        · obtain rfl : j = m := by omega
          have HQ : Hd (ls = ls1) := by
            have := (unhide hI).eq
            rw [Nat.sub_self, gIns] at this
            injection this
          have hq := unhide HQ
          subst hq
          have HI2 : Hd (BoI w1 wr pb K st pl g.length j 0 ls F ads la lc) := ⟨(unhide hI).S, unhide HFq, hlm, fun x hx => by rw [unhide Hb1 x hx]; simp⟩
          clear hI HQ HFq Hb1
          go_wp2_with fail
          go_loopw [68] (fun t68 wr => ∃ (p : Nat) (ls : List GL) (ads : List (Option Addr × Nat)), t68 = .int .i64 (p : Int) ∧ p ≤ g.length ∧ Hd (BoI w1 wr pb K st pl g.length j p ls F ads la lc)) (fun t _ => g.length - (intOf t).toNat)
          case atStart => exact ⟨0, _, _, rfl, by omega, HI2⟩
          case round =>
            clear HI2
            obtain ⟨p, ls, ads, rfl, hp, hI⟩ := hrel
            by_cases hlt3 : p < g.length
            · have heq := (unhide hI).eq
              rw [show g.length - p = g.length - (p + 1) + 1 by omega, gBods] at heq
              cases hin : gInm st p with
              | none => rw [hin] at heq; cases heq
              | some h0 =>
              rw [hin] at heq
              simp only at heq
              cases hbo : gBod st.outer pl p K h0 ls with
              | none => rw [hbo] at heq; cases heq
              | some lsF =>
              rw [hbo] at heq
              simp only at heq
              have HCall := hide (unhide HIn wp wz wr M Pb F1 L1 H O T lo hi oa oc p h0 ((unhide S1).on (unhide hI).S.ext) hin)
              have HB0 : Hd (BiI w1 wr pb st.outer pl j p K (p * K + K) h0 ls lsF ads la lc) := ⟨(unhide hI).S, hbo, (unhide hI).ln, fun x hx => by have := (unhide hI).bd x hx; omega⟩
              have HEq := hide heq
              have hpK : p * K + K ≤ 100000000 := by
                have h1 : (p + 1) * K ≤ (g.length + 1) * K := Nat.mul_le_mul_right _ (by omega)
                rw [Nat.succ_mul] at h1
                omega
              have HpK : Hd ((p + 1) * K = p * K + K) := Nat.succ_mul p K
              clear heq hin hbo hI
              go_wp2_with (go_at_call 32; refine Calls.mono (unhide HCall) ?_; rintro e wx ⟨rfl, hw⟩; rw [hw]; clear hw wx)
              go_loopg [11] K (fun gk t11 wr => ∃ (h : Option Nat) (ls : List GL) (ads : List (Option Addr × Nat)), t11 = .int .i64 (oI h) ∧ Hd (BiI w1 wr pb st.outer pl j p gk (p * K + K) h ls lsF ads la lc))
              case atStart => exact ⟨h0, _, _, rfl, HB0⟩
              case round =>
                clear HB0 HCall
                obtain ⟨h, ls, ads, rfl, hI⟩ := hrel
                have hE := (unhide hI).eq
                cases gk with
                | zero => rw [gBod] at hE; cases hE
                | succ gk =>
                have hln := (unhide hI).ln
                cases h with
                | none =>
                  rw [gBod] at hE
                  injection hE with hE
                  subst hE
                  have HS := hide (unhide hI).S
                  have HBd := hide (unhide hI).bd
                  rw [show oI none = -1 from rfl]
                  go_wp2_with fail
                  go_roundw
                  case rel => exact ⟨p + 1, ls, ads, by go_num, by omega, ⟨unhide HS, unhide HEq, hln, fun x hx => by have := unhide HBd x hx; rw [unhide HpK]; omega⟩⟩
                  case measure => simp [intOf]; omega
                | some h =>
                  rw [gBod] at hE
                  cases hpi : pl[h]? with
                  | none => rw [hpi] at hE; cases hE
                  | some oi =>
                  cases oi with
                  | none => rw [hpi] at hE; cases hE
                  | some i =>
                  cases hoh : st.outer[h]? with
                  | none => rw [hpi, hoh] at hE; cases hE
                  | some o =>
                  rw [hpi, hoh] at hE
                  simp only at hE
                  cases hx : ls[i]? with
                  | none => rw [hx] at hE; cases hE
                  | some x =>
                  rw [hx] at hE
                  simp only at hE
                  obtain ⟨gl, a, rfl, hlc, ha, k0, k1, k2, kf⟩ := (unhide hI).S.at hx
                  have hX := (unhide hI).S.ext
                  have hhn : h < g.length := by have := (List.getElem?_eq_some_iff.1 hpi).1; omega
                  have hhn2 : (h : Int) < (g.length : Int) := by omega
                  have cp := (unhide hI).S.rP.cell h (os_at hpi)
                  rw [show oI (some i) = (i : Int) from rfl] at cp
                  rw [show oI (some h) = (h : Int) from rfl]
                  have him : (i : Int) < (j : Int) := by have := (List.getElem?_eq_some_iff.1 hx).1; omega
                  have hne : ((h : Int) == -1) = false := by rw [beq_eq_false_iff_ne]; omega
                  have hbx := (unhide hI).bd x (List.mem_of_getElem? hx)
                  have HO : Hd (∀ ob, (wr.alloc ob).ownsRow w1.heap.size 3 1 (.slice a.1 x.body.length a.2) x.body.length (ns x.body)) := fun ob => ((unhide hI).S.on (Ext.alloc _ ob)).own i x a hx ha
                  have HLe := hide (unhide hI).S.ext.size
                  have HPush := hide (fun (w3 : World) (ob : Obj) (g' cap' : Nat) => (unhide hI).S.push (w3 := w3) (ob := ob) (g' := g') (cap' := cap') hx ha p)
                  have HOut := hide (fun (W : World) (hW : Ext w1 W) => (show W.cell? ⟨M, 4, none⟩ = some (slV O g.length) ∧ W.cell? ⟨O, h, none⟩ = some (.int .i64 (oI o)) from ⟨hW.cell ((unhide S1).rM.cell 4 rfl), hW.cell ((unhide S1).rO.cell h (os_at hoh))⟩))
                  have HKp : Hd (∀ (w3 : World) (ob : Obj), (wr.alloc ob).grownBy w3 (Value.slice a.1 x.body.length a.2).ownBlock → w3.heap[gl]? = wr.heap[gl]?) := fun w3 ob hgr => by
                    have hl := ((unhide hI).S.oL.lt gl rfl).2
                    refine (hgr.block gl (by rw [sz1]; omega) (fun e => ?_)).trans ((Ext.alloc wr ob).block gl hl)
                    rw [obk_eq] at e
                    exact ((unhide hI).S.aP i a ha).2 gl rfl e.symm
                  have k3 := kf (i * 3 + 1)
                  have HBd := hide (unhide hI).bd
                  have HEq2 := hide hE
                  have Hxm := hide (List.mem_of_getElem? hx)
                  clear hE hpi hoh hx ha kf hI k0 k2
                  go_wp2_with (at_builtin; refine kapp_list rfl (.tmp 93) (.tmp 95) 22 rfl w1.heap.size 3 j0 (.int .i64 0) 1 8 Try.underlying22 (unhide JI) (unhide J0) (unhide J1) (unhide J2) rfl (by decide) a.1 x.body.length a.2 _ rfl (unhide HO _) ⟨wr.heap.size, 0, none⟩ 1 1 [.int .i64 (p : Int)] rfl (by decide) rfl (k_new _ _ rfl _ _) (k_one_int _) ?c1 ?c2 ?c3 ?_)
                  case c1 => unfold maxLen; omega
                  case c2 => omega
                  case c3 => exact Nat.le_trans (unhide HLe) (Ext.alloc _ _).size
                  intro g' cap' w3 ho hgr hw
                  have S3 := hide (unhide HPush w3 _ g' cap' hgr ho (hw.imp id (fun e => by have := e; omega)))
                  have hkp := unhide HKp w3 _ hgr
                  have d1 : w3.cell? ⟨gl, i * 3 + 1, none⟩ = some (.slice a.1 x.body.length a.2) := by rw [World.cell?_of_block (w := wr) hkp]; exact k1
                  have d3 : w3.frozen? ⟨gl, i * 3 + 1, none⟩ = false := by rw [← k3]; simp only [World.frozen?, hkp]
                  obtain ⟨o1, o2⟩ := unhide HOut _ (unhide S3).ext
                  clear ho hgr hw hkp
                  go_wp2_with fail
                  go_roundg gk
                  case rel =>
                    refine ⟨o, _, _, rfl, ⟨unhide S3, unhide HEq2, by rw [List.length_set]; exact hln, fun y hy => ?_⟩⟩
                    rcases List.mem_or_eq_of_mem_set hy with hy | hy
                    · have := unhide HBd y hy; omega
                    · subst hy
                      rw [List.length_append]
                      simp only [List.length_cons, List.length_nil]
                      omega
                  case measure => omega
            · obtain rfl : p = g.length := by omega
              have HQ : Hd (ls = F) := by
                have := (unhide hI).eq
                rw [Nat.sub_self, gBods] at this
                injection this
              have hq := unhide HQ
              subst hq
              have hln := (unhide hI).ln
              go_wp2_with fail
              go_ret
              refine ⟨w1, pb, pl, ads, la, lc, ?_, unhide XX, (unhide hI).S⟩
              rw [hln]
              rfl

end Go.Proofs.Ytpfjafjpijmckaa

/- What the law holds awake: a graph of four points. -/
set_option linter.unusedSimpArgs false
set_option linter.unusedVariables false
set_option maxRecDepth 10000
namespace Go.Proofs.Ytpfjafjpijmckaa
open Go.RowKit

def g4 : List (List Int) := [[1, 2], [3], [3], [0]]
theorem g4_doms : gDoms g4 50 = some [none, some 0, some 0, some 0] := by kernel_rfl
theorem g4_loops : gLoops g4 50 = some [⟨0, [0, 1, 2, 3], none⟩] := by kernel_rfl
theorem g4_walk : ∀ st, gWalk g4 50 = some st → st.met.length ≤ 1000000 := fun st h => by have := (gWalk_len h).1; omega
theorem g4_few : Few g4 := ⟨by decide, by decide⟩
theorem g4_pred : ∀ l ∈ gPreds g4, l.length ≤ 4 := by decide

abbrev w4 (w : World) : World := ((((w.alloc (.cells #[.int .i64 1, .int .i64 2] 3)).alloc (.cells #[.int .i64 3] 3)).alloc (.cells #[.int .i64 3] 3)).alloc (.cells #[.int .i64 0] 3)).alloc (.cells #[.slice (some ⟨w.heap.size, 0, none⟩) 2 2, .slice (some ⟨w.heap.size + 1, 0, none⟩) 1 1, .slice (some ⟨w.heap.size + 1 + 1, 0, none⟩) 1 1, .slice (some ⟨w.heap.size + 1 + 1 + 1, 0, none⟩) 1 1] 22)
theorem w4_rep (w : World) : RepG (w4 w) (In (w4 w)) (some ⟨w.heap.size + 1 + 1 + 1 + 1, 0, none⟩) g4 := by
  have s1 : (w.alloc (.cells #[.int .i64 1, .int .i64 2] 3)).heap.size = w.heap.size + 1 := sz1 _ _
  have s2 : ((w.alloc (.cells #[.int .i64 1, .int .i64 2] 3)).alloc (.cells #[.int .i64 3] 3)).heap.size = w.heap.size + 1 + 1 := by rw [sz1, s1]
  have s3 : (((w.alloc (.cells #[.int .i64 1, .int .i64 2] 3)).alloc (.cells #[.int .i64 3] 3)).alloc (.cells #[.int .i64 3] 3)).heap.size = w.heap.size + 1 + 1 + 1 := by rw [sz1, s2]
  have s4 : ((((w.alloc (.cells #[.int .i64 1, .int .i64 2] 3)).alloc (.cells #[.int .i64 3] 3)).alloc (.cells #[.int .i64 3] 3)).alloc (.cells #[.int .i64 0] 3)).heap.size = w.heap.size + 1 + 1 + 1 + 1 := by rw [sz1, s3]
  have s5 : (w4 w).heap.size = w.heap.size + 1 + 1 + 1 + 1 + 1 := by unfold w4; rw [sz1, s4]
  have r1 : Row (w4 w) w.heap.size 3 [.int .i64 1, .int .i64 2] := ((((Row.new w [.int .i64 1, .int .i64 2] 3).on (Ext.alloc _ _)).on (Ext.alloc _ _)).on (Ext.alloc _ _)).on (Ext.alloc _ _)
  have r2 : Row (w4 w) (w.heap.size + 1) 3 [.int .i64 3] := by
    have := (((Row.new (w.alloc (.cells #[.int .i64 1, .int .i64 2] 3)) [.int .i64 3] 3).on (Ext.alloc _ (.cells #[.int .i64 3] 3))).on (Ext.alloc _ (.cells #[.int .i64 0] 3))).on (Ext.alloc _ (.cells #[.slice (some ⟨w.heap.size, 0, none⟩) 2 2, .slice (some ⟨w.heap.size + 1, 0, none⟩) 1 1, .slice (some ⟨w.heap.size + 1 + 1, 0, none⟩) 1 1, .slice (some ⟨w.heap.size + 1 + 1 + 1, 0, none⟩) 1 1] 22))
    rw [s1] at this
    exact this
  have r3 : Row (w4 w) (w.heap.size + 1 + 1) 3 [.int .i64 3] := by
    have := ((Row.new ((w.alloc (.cells #[.int .i64 1, .int .i64 2] 3)).alloc (.cells #[.int .i64 3] 3)) [.int .i64 3] 3).on (Ext.alloc _ (.cells #[.int .i64 0] 3))).on (Ext.alloc _ (.cells #[.slice (some ⟨w.heap.size, 0, none⟩) 2 2, .slice (some ⟨w.heap.size + 1, 0, none⟩) 1 1, .slice (some ⟨w.heap.size + 1 + 1, 0, none⟩) 1 1, .slice (some ⟨w.heap.size + 1 + 1 + 1, 0, none⟩) 1 1] 22))
    rw [s2] at this
    exact this
  have r4 : Row (w4 w) (w.heap.size + 1 + 1 + 1) 3 [.int .i64 0] := by
    have := (Row.new (((w.alloc (.cells #[.int .i64 1, .int .i64 2] 3)).alloc (.cells #[.int .i64 3] 3)).alloc (.cells #[.int .i64 3] 3)) [.int .i64 0] 3).on (Ext.alloc _ (.cells #[.slice (some ⟨w.heap.size, 0, none⟩) 2 2, .slice (some ⟨w.heap.size + 1, 0, none⟩) 1 1, .slice (some ⟨w.heap.size + 1 + 1, 0, none⟩) 1 1, .slice (some ⟨w.heap.size + 1 + 1 + 1, 0, none⟩) 1 1] 22))
    rw [s3] at this
    exact this
  have r5 : Row (w4 w) (w.heap.size + 1 + 1 + 1 + 1) 22 [.slice (some ⟨w.heap.size, 0, none⟩) 2 2, .slice (some ⟨w.heap.size + 1, 0, none⟩) 1 1, .slice (some ⟨w.heap.size + 1 + 1, 0, none⟩) 1 1, .slice (some ⟨w.heap.size + 1 + 1 + 1, 0, none⟩) 1 1] := by
    have := Row.new ((((w.alloc (.cells #[.int .i64 1, .int .i64 2] 3)).alloc (.cells #[.int .i64 3] 3)).alloc (.cells #[.int .i64 3] 3)).alloc (.cells #[.int .i64 0] 3)) [.slice (some ⟨w.heap.size, 0, none⟩) 2 2, .slice (some ⟨w.heap.size + 1, 0, none⟩) 1 1, .slice (some ⟨w.heap.size + 1 + 1, 0, none⟩) 1 1, .slice (some ⟨w.heap.size + 1 + 1 + 1, 0, none⟩) 1 1] 22
    rw [s4] at this
    exact this
  have rI : ∀ (b : Nat) (l : List Int), Row (w4 w) b 3 (zs l) → RepI (w4 w) (In (w4 w)) (some ⟨b, 0, none⟩) l := fun b l h => Or.inr ⟨b, 0, rfl, k_lt h, fun j x hx => by rw [Nat.zero_add]; exact h.cell j (by simp [zs, hx])⟩
  refine Or.inr ⟨_, 0, rfl, k_lt r5, fun j l hl => ?_⟩
  rw [Nat.zero_add]
  have hj : j < 4 := (List.getElem?_eq_some_iff.1 hl).1
  rcases (show j = 0 ∨ j = 1 ∨ j = 2 ∨ j = 3 by omega) with rfl | rfl | rfl | rfl
  · obtain rfl : [1, 2] = l := Option.some.inj hl
    exact ⟨_, 2, r5.cell 0 rfl, rI _ _ r1⟩
  · obtain rfl : [3] = l := Option.some.inj hl
    exact ⟨_, 1, r5.cell 1 rfl, rI _ _ r2⟩
  · obtain rfl : [3] = l := Option.some.inj hl
    exact ⟨_, 1, r5.cell 2 rfl, rI _ _ r3⟩
  · obtain rfl : [0] = l := Option.some.inj hl
    exact ⟨_, 1, r5.cell 3 rfl, rI _ _ r4⟩
theorem w4_ext (w : World) : Ext w (w4 w) := ((((Ext.alloc _ _).trans (Ext.alloc _ _)).trans (Ext.alloc _ _)).trans (Ext.alloc _ _)).trans (Ext.alloc _ _)

set_option maxHeartbeats 4000000 in
theorem awake_w (w : World) : Calls Try.prog 15 #[] w fun e w' => e = .returned (.bool true) ∧ Ext w w' := by
  have H1 := hide (doms_w _ 4 g4 (w4 w) 50 _ (w4_rep w) g4_few (by omega) g4_walk g4_doms)
  have H2 := hide (fun W => loops_w _ 4 g4 (w4 W) 50 4 _ (w4_rep W) g4_few (by omega) g4_pred (by omega) (by decide) g4_loops)
  have HX := hide w4_ext
  go_enter Try.func15, Try.ntmps15
  go_wp2_with (first
    | (go_at_call 9; refine Calls.mono (unhide H1) ?_; rintro e w1 ⟨b, rfl, b1, r1, x1⟩; have X1 := hide ((unhide HX w).trans x1); have q0 := r1.cell 0 rfl; have q1 := r1.cell 1 rfl; have q3 := r1.cell 3 rfl; have QX := hide (fun (W : World) (h : Ext w1 W) => (show W.cell? ⟨b, 0, none⟩ = some (.int .i64 (-1)) ∧ W.cell? ⟨b, 1, none⟩ = some (.int .i64 0) ∧ W.cell? ⟨b, 3, none⟩ = some (.int .i64 0) from ⟨h.cell q0, h.cell q1, h.cell q3⟩)); clear b1 r1 x1 q0 q1 q3)
    | (go_at_call 12; refine Calls.mono (unhide H2 w1) ?_; rintro e w2 ⟨wz, pb, pl, ads, la, lc, rfl, x2, s2⟩; obtain ⟨gl, a, rfl, hlc, ha, k0, k1, k2, kf⟩ := s2.at (i := 0) rfl; have X2 := hide ((unhide HX w1).trans (x2.trans s2.ext)); obtain ⟨q0, q1, q3⟩ := unhide QX w2 (unhide X2); have k0 : w2.cell? ⟨gl, 0, none⟩ = some (.int .i64 0) := k0; have k1 : w2.cell? ⟨gl, 1, none⟩ = some (.slice a.1 4 a.2) := k1; have k2 : w2.cell? ⟨gl, 2, none⟩ = some (.int .i64 (-1)) := k2; have hlc : 1 ≤ lc := hlc; clear x2 s2 ha kf))
  go_ret
  exact ⟨rfl, (unhide X1).trans (unhide X2)⟩

end Go.Proofs.Ytpfjafjpijmckaa
