/- The walk itself: from a point wherever it leads, and back again. -/
import Derived.Test.YtdnhekgbfhlhoaaGrWk
set_option linter.unusedSimpArgs false
set_option linter.unusedVariables false
set_option maxRecDepth 10000
namespace Go.Proofs.Ytdnhekgbfhlhoaa
open Go.RowKit

/-- A jump to l0 or to l1. -/
def KB (l0 l1 : Nat) (I0 I1 : Act → World → Prop) (Q : Exit → Act → World → Prop) : Exit → Act → World → Prop
  | .goto l, a, w => (l = l0 ∧ I0 a w) ∨ (l = l1 ∧ I1 a w)
  | e, a, w => Q e a w
theorem KB.imp {l0 l1 : Nat} {I0 I1 J0 J1 : Act → World → Prop} {Q : Exit → Act → World → Prop} (h0 : ∀ a w, I0 a w → J0 a w) (h1 : ∀ a w, I1 a w → J1 a w) : ∀ e a w, KB l0 l1 I0 I1 Q e a w → KB l0 l1 J0 J1 Q e a w := by
  intro e a w hq
  cases e with
  | goto l => exact Or.imp (fun x => ⟨x.1, h0 a w x.2⟩) (fun x => ⟨x.1, h1 a w x.2⟩) hq
  | _ => exact hq
/-- A scope with two labels, both jumped back to, the first flowing into the second. -/
theorem k_scope_back {P : Program} {a : Act} {w : World} {Q : Exit → Act → World → Prop} {c rest0 rest1 : Code} (l0 l1 : Nat) (hne : l1 ≠ l0) (J0 J1 : Nat → Act → World → Prop)
    (hf0 : findLabel c l0 = some (Code.skip.seq rest0)) (hf1 : findLabel c l1 = some (Code.skip.seq rest1))
    (pass1 : ∀ k a w, J1 k a w → rest1.wp P (KB l0 l1 (fun a' w' => ∃ k', k' < k ∧ J0 k' a' w') (fun a' w' => ∃ k', k' < k ∧ J1 k' a' w') Q) a w)
    (pass0 : ∀ k, (∀ a w, J1 k a w → rest1.wp P (KB l0 l1 (fun a' w' => ∃ k', k' < k ∧ J0 k' a' w') (fun a' w' => ∃ k', k' < k ∧ J1 k' a' w') Q) a w) → ∀ a w, J0 k a w → rest0.wp P (KB l0 l1 (fun a' w' => ∃ k', k' < k ∧ J0 k' a' w') (fun a' w' => ∃ k', k' < k ∧ J1 k' a' w') Q) a w)
    (first : (∀ k a w, J0 k a w → rest0.wp P (KB l0 l1 (fun a' w' => ∃ k, J0 k a' w') (fun a' w' => ∃ k, J1 k a' w') Q) a w) → c.wp P (KB l0 l1 (fun a' w' => ∃ k, J0 k a' w') (fun a' w' => ∃ k, J1 k a' w') Q) a w) : (Code.scope c).wp P Q a w := by
  refine k_scope_many (fun l k a w => (l = l0 ∧ J0 k a w) ∨ (l = l1 ∧ J1 k a w)) (fun l => if l = l0 then Code.skip.seq rest0 else Code.skip.seq rest1) ?_ ?_ ?_
  · rintro l k a w (⟨rfl, _⟩ | ⟨rfl, _⟩)
    · rw [if_pos rfl]; exact hf0
    · rw [if_neg hne]; exact hf1
  · refine Code.wp_mono ?_ (first fun k a w h => by
      refine Code.wp_mono (KB.imp ?_ ?_) (pass0 k (pass1 k) a w h)
      · rintro a w ⟨k', _, h⟩; exact ⟨k', h⟩
      · rintro a w ⟨k', _, h⟩; exact ⟨k', h⟩)
    intro e a w hq
    cases e with
    | goto l =>
      rcases hq with ⟨e, k, h⟩ | ⟨e, k, h⟩
      · exact ⟨k, Or.inl ⟨e, h⟩⟩
      · exact ⟨k, Or.inr ⟨e, h⟩⟩
    | _ => exact hq
  · rintro l k a w (⟨rfl, h⟩ | ⟨rfl, h⟩)
    · rw [if_pos rfl]
      refine wp_seq (wp_skip (Code.wp_mono ?_ (pass0 k (pass1 k) a w h)))
      intro e a w hq
      cases e with
      | goto l =>
        rcases hq with ⟨e, k', hk, h⟩ | ⟨e, k', hk, h⟩
        · exact ⟨k', hk, Or.inl ⟨e, h⟩⟩
        · exact ⟨k', hk, Or.inr ⟨e, h⟩⟩
      | _ => exact hq
    · rw [if_neg hne]
      refine wp_seq (wp_skip (Code.wp_mono ?_ (pass1 k a w h)))
      intro e a w hq
      cases e with
      | goto l =>
        rcases hq with ⟨e, k', hk, h⟩ | ⟨e, k', hk, h⟩
        · exact ⟨k', hk, Or.inl ⟨e, h⟩⟩
        · exact ⟨k', hk, Or.inr ⟨e, h⟩⟩
      | _ => exact hq

/-- Of each point its next place lies in its list; the rows are no longer than steps were made. -/
structure WOk (g : List (List Int)) (K k : Nat) (st : GW) : Prop where
  nx : ∀ (p x : Nat) (l : List Int), st.next[p]? = some x → g[p]? = some l → x ≤ l.length
  mq : st.met.length + k ≤ K + 1
  lk : st.left.length + k ≤ K
theorem WOk.step {g : List (List Int)} {K k : Nat} {st : GW} (h : WOk g K (k + 1) st) {p x : Nat} {l : List Int} (hx : st.next[p]? = some x) (hl : g[p]? = some l) (sh : List Bool) : ∀ (q y : Nat) (l' : List Int), (st.next.set p (x + (gScan g.length sh (l.drop x)).1))[q]? = some y → g[q]? = some l' → y ≤ l'.length := by
  intro q y l' hy hl'
  rw [List.getElem?_set] at hy
  split at hy
  · rename_i e
    subst e
    split at hy
    · injection hy with hy
      rw [hl] at hl'
      injection hl' with hl'
      subst hl' hy
      have h1 := gScan_le g.length sh (l.drop x)
      have h2 := h.nx _ _ _ hx hl
      rw [List.length_drop] at h1
      omega
    · cases hy
  · exact h.nx _ _ _ hy hl'

/-- What a walk from a point leaves. -/
def WlE (w0 : World) (B S N Y : Nat) (ga : Option Addr) (gc n : Nat) (st : GW) (e : Ending) (w' : World) : Prop := e = .returned (.tuple #[]) ∧ ∃ ma mc la lc, WlS w0 w' B S N Y ga gc n st ma mc la lc

/-- At the label come: the point is still to be shut and met. -/
structure FrC (w0 wr : World) (B S N Y : Nat) (ga : Option Addr) (gc : Nat) (g : List (List Int)) (F : GW) (K k : Nat) (st : GW) (ma : Option Addr) (mc : Nat) (la : Option Addr) (lc : Nat) (to : Nat) : Prop where
  S : WlS w0 wr B S N Y ga gc g.length st ma mc la lc
  lt : to < g.length
  eq : gLook g k ⟨st.shut.set to true, st.next, st.wby, st.met ++ [to], st.left⟩ to = some F
  ok : WOk g K k ⟨st.shut, st.next, st.wby, st.met ++ [to], st.left⟩
/-- At the label look. -/
structure FrL (w0 wr : World) (B S N Y : Nat) (ga : Option Addr) (gc : Nat) (g : List (List Int)) (F : GW) (K k : Nat) (st : GW) (ma : Option Addr) (mc : Nat) (la : Option Addr) (lc : Nat) (p : Nat) : Prop where
  S : WlS w0 wr B S N Y ga gc g.length st ma mc la lc
  eq : gLook g k st p = some F
  ok : WOk g K k st

theorem gScan_lt (n : Nat) (sh : List Bool) : ∀ (l : List Int) (q : Nat), (gScan n sh l).2 = some q → q < n
  | [], q, h => by simp [gScan] at h
  | x :: r, q, h => by
    rw [gScan] at h
    split at h
    · rename_i hc
      simp [gPt] at hc h
      omega
    · exact gScan_lt n sh r q h

set_option maxHeartbeats 4000000 in
theorem from_w (w0 w : World) (B S N Y : Nat) (ga : Option Addr) (gc : Nat) (g : List (List Int)) (st : GW) (ma : Option Addr) (mc : Nat) (la : Option Addr) (lc : Nat) (start K K1 : Nat) (F : GW) (hg : RepG w0 (In w0) ga g) (hf : Few g)
    (hS : WlS w0 w B S N Y ga gc g.length st ma mc la lc) (hst : start < g.length) (hok : WOk g K K1 ⟨st.shut, st.next, st.wby, st.met ++ [start], st.left⟩) (hK : K ≤ 8000000) (hF : gFrom g K1 st start = some F) :
    Calls Try.prog 60 #[.pointer (some ⟨B, 0, none⟩), .int .i64 (start : Int)] w (WlE w0 B S N Y ga gc g.length F) := by
  have HOn := hide (fun (W : World) (st : GW) (ma : Option Addr) (mc : Nat) (la : Option Addr) (lc : Nat) (l : List Int) (p x : Nat) (hS : WlS w0 W B S N Y ga gc g.length st ma mc la lc) => onward_w w0 W B S N Y ga gc g st ma mc la lc l p x hg hf hS)
  have HC0 : Hd (FrC w0 w B S N Y ga gc g F K K1 st ma mc la lc start) := ⟨hS, hst, hF, hok⟩
  have hgn : Hd (g.length ≤ 1000000) := hf.1
  have HK := hide hK
  obtain ⟨i0, hi, hz0, hz1, hz2⟩ := k_info
  have HI := hide hi
  have Z0 := hide hz0
  have Z1 := hide hz1
  have Z2 := hide hz2
  clear hi hz0 hz1 hz2 hF hg hf hS hst hok hK
  obtain ⟨n, hn⟩ : ∃ n, g.length = n := ⟨_, rfl⟩
  have HN := hide hn
  clear hn
  go_enter Try.func60, Try.ntmps60
  refine k_scope_back 0 1 (by decide) (fun k a' wr => ∃ (u4 u6 u7 u8 u9 u10 u11 u12 u13 u14 u15 u16 u17 u18 u19 u20 u21 u22 u23 u24 u25 u26 u27 u28 u29 u30 u31 u32 u33 u34 u35 u36 u37 u38 u39 u40 u41 u42 u43 u44 u45 u46 u47 u48 u49 u50 u51 u52 u53 u54 u55 : Value), ∃ (st : GW) (ma : Option Addr) (mc : Nat) (la : Option Addr) (lc : Nat) (to : Nat), a' = { tmps := #[.pointer (some ⟨B, 0, none⟩), .int .i64 (start : Int), undef, undef, u4, .int .i64 (to : Int), u6, u7, u8, u9, u10, u11, u12, u13, u14, u15, u16, u17, u18, u19, u20, u21, u22, u23, u24, u25, u26, u27, u28, u29, u30, u31, u32, u33, u34, u35, u36, u37, u38, u39, u40, u41, u42, u43, u44, u45, u46, u47, u48, u49, u50, u51, u52, u53, u54, u55], defers := [] } ∧ Hd (FrC w0 wr B S N Y ga gc g F K k st ma mc la lc to)) (fun k a' wr => ∃ (u5 u6 u7 u8 u9 u10 u11 u12 u13 u14 u15 u16 u17 u18 u19 u20 u21 u22 u23 u24 u25 u26 u27 u28 u29 u30 u31 u32 u33 u34 u35 u36 u37 u38 u39 u40 u41 u42 u43 u44 u45 u46 u47 u48 u49 u50 u51 u52 u53 u54 u55 : Value), ∃ (st : GW) (ma : Option Addr) (mc : Nat) (la : Option Addr) (lc : Nat) (p : Nat), a' = { tmps := #[.pointer (some ⟨B, 0, none⟩), .int .i64 (start : Int), undef, undef, .int .i64 (p : Int), u5, u6, u7, u8, u9, u10, u11, u12, u13, u14, u15, u16, u17, u18, u19, u20, u21, u22, u23, u24, u25, u26, u27, u28, u29, u30, u31, u32, u33, u34, u35, u36, u37, u38, u39, u40, u41, u42, u43, u44, u45, u46, u47, u48, u49, u50, u51, u52, u53, u54, u55], defers := [] } ∧ Hd (FrL w0 wr B S N Y ga gc g F K k st ma mc la lc p)) rfl rfl ?_ ?_ ?_
  · -- look
    rintro k a' wr ⟨u5, u6, u7, u8, u9, u10, u11, u12, u13, u14, u15, u16, u17, u18, u19, u20, u21, u22, u23, u24, u25, u26, u27, u28, u29, u30, u31, u32, u33, u34, u35, u36, u37, u38, u39, u40, u41, u42, u43, u44, u45, u46, u47, u48, u49, u50, u51, u52, u53, u54, u55, st, ma, mc, la, lc, p, rfl, hL⟩
    have hE := (unhide hL).eq
    cases k with
    | zero => rw [gLook] at hE; cases hE
    | succ k =>
    rw [gLook] at hE
    cases hl : g[p]? with
    | none => rw [hl] at hE; cases hE
    | some l =>
    cases hx : st.next[p]? with
    | none => rw [hl, hx] at hE; cases hE
    | some x =>
    rw [hl, hx] at hE
    have hxl := (unhide hL).ok.nx p x l hx hl
    have HS := hide (unhide hL).S
    have hpn : Hd (p < g.length) := (List.getElem?_eq_some_iff.1 hl).1
    have HCall := hide (unhide HOn wr st ma mc la lc l p x (unhide HS) hl hx hxl)
    have HNx := hide ((unhide hL).ok.step hx hl st.shut)
    have hmk := (unhide hL).ok.mq
    have hlk := (unhide hL).ok.lk
    have HGl := hide (gScan_lt g.length st.shut (l.drop x))
    simp only at hE
    clear hl hx hxl
    cases hsc : gScan g.length st.shut (l.drop x) with
    | mk c o =>
    rw [hsc] at hE HCall HNx HGl
    simp only at HCall HNx HGl
    cases o with
    | some to =>
      simp only at hE
      have htn := unhide HGl to rfl
      clear HGl hsc
      have hto : ((to : Int) == -1) = false := by rw [beq_eq_false_iff_ne]; omega
      rw [show oI (some to) = (to : Int) from rfl] at HCall
      go_wp2_with (go_at_call 65; refine Calls.mono (unhide HCall) ?_; rintro e w1 ⟨rfl, s1⟩; have S1 := hide s1; have c3 : w1.cell? ⟨B, 3, none⟩ = some (.slice (some ⟨Y, 0, none⟩) g.length g.length) := s1.rB.cell 3 rfl; obtain ⟨y, hy⟩ : ∃ y, st.wby[to]? = some y := ⟨_, List.getElem?_eq_getElem (by rw [s1.len.2.2]; exact htn)⟩; have cy := s1.rY.cell to (os_at hy); have fy := k_rowF s1.rY to; clear s1 hy)
      go_step3
      refine Or.inl ⟨rfl, k, by omega, _, _, _, _, _, _, _, _, _, _, _, _, _, _, _, _, _, _, _, _, _, _, _, _, _, _, _, _, _, _, _, _, _, _, _, _, _, _, _, _, _, _, _, _, _, _, _, _, _, _, _, _, _, _, _, _, to, rfl, ⟨(unhide S1).setY to (some p), htn, hE, ⟨unhide HNx, ?_, ?_⟩⟩⟩
      · simp only [List.length_append, List.length_cons, List.length_nil]; omega
      · show st.left.length + k ≤ K; omega
    | none =>
      simp only at hE
      rw [show oI none = -1 from rfl] at HCall
      clear HGl hsc
      obtain ⟨b, hb⟩ : ∃ b, st.wby[p]? = some b := ⟨_, List.getElem?_eq_getElem (by rw [(unhide HS).len.2.2]; exact unhide hpn)⟩
      rw [hb] at hE
      have HB := hide hb
      clear hb
      go_wp2_with (first
        | (go_at_call 65; refine Calls.mono (unhide HCall) ?_; rintro e w1 ⟨rfl, s1⟩; have S1 := hide s1; have c5 : w1.cell? ⟨B, 5, none⟩ = some (.slice la st.left.length lc) := s1.rB.cell 5 rfl; have HO : Hd (∀ ob, (w1.alloc ob).ownsRow w0.heap.size 3 1 (.slice la st.left.length lc) st.left.length (ns st.left)) := fun ob => (s1.on (Ext.alloc w1 ob)).oL; have HLe := hide s1.ext.size; clear s1)
        | (at_builtin; refine kapp_list rfl (.tmp 41) (.tmp 43) 30 rfl w0.heap.size 3 i0 (.int .i64 0) 1 8 Try.underlying30 (unhide HI) (unhide Z0) (unhide Z1) (unhide Z2) rfl (by decide) la st.left.length lc _ rfl (unhide HO _) ⟨w1.heap.size, 0, none⟩ 1 1 [.int .i64 (p : Int)] rfl (by decide) rfl (k_new _ _ rfl _ _) (k_one_int _) ?c1 ?c2 ?c3 ?_))
      case c1 => have := unhide HK; unfold maxLen; omega
      case c2 => have := unhide HK; omega
      case c3 => have := unhide HLe; have := (Ext.alloc w1 (.cells #[.int .i64 (p : Int)] 3)).size; omega
      intro g' cap' w3 ho hg hw
      have S3 := hide ((unhide S1).pushL p hg ho (hw.imp id (fun e => by rw [show (w1.alloc _).heap.size = w1.heap.size + 1 from Array.size_push ..]; exact e)))
      have hrB : Hd (Row w3 B 90 _) := (((unhide S1).on (Ext.alloc w1 _)).rB.grown hg (fun e => ((unhide S1).aL B (by rw [obk_eq] at e; exact e.symm)).1 rfl))
      have fz := k_rowF (unhide hrB) 5
      have d5 : w3.cell? ⟨B, 5, none⟩ = some (.slice la st.left.length lc) := (unhide hrB).cell 5 rfl
      have c3 : (w3.setCell ⟨B, 5, none⟩ (.slice (some ⟨g', 0, none⟩) (st.left.length + 1) cap')).cell? ⟨B, 3, none⟩ = some (.slice (some ⟨Y, 0, none⟩) g.length g.length) := (unhide S3).rB.cell 3 rfl
      have cb : (w3.setCell ⟨B, 5, none⟩ (.slice (some ⟨g', 0, none⟩) (st.left.length + 1) cap')).cell? ⟨Y, p, none⟩ = some (.int .i64 (oI b)) := (unhide S3).rY.cell p (os_at (unhide HB))
      have hp := unhide hpn
      have HlL : Hd (∀ {α : Type} (l : List α) (x : α), (l ++ [x]).length = l.length + 1) := fun l x => by simp
      clear ho hg hw hrB
      cases b with
      | none =>
        simp only [Option.some.injEq] at hE
        subst hE
        rw [show oI none = -1 from rfl] at cb
        go_wp2_with fail
        simp only [KB]
        go_end0
        exact ⟨rfl, _, _, _, _, unhide S3⟩
      | some b =>
        simp only at hE
        have hto : ((b : Int) == -1) = false := by rw [beq_eq_false_iff_ne]; omega
        rw [show oI (some b) = (b : Int) from rfl] at cb
        go_wp2_with fail
        go_step3
        refine Or.inr ⟨rfl, k, by omega, _, _, _, _, _, _, _, _, _, _, _, _, _, _, _, _, _, _, _, _, _, _, _, _, _, _, _, _, _, _, _, _, _, _, _, _, _, _, _, _, _, _, _, _, _, _, _, _, _, _, _, _, _, _, _, _, b, rfl, ⟨unhide S3, hE, ⟨unhide HNx, ?_, ?_⟩⟩⟩
        · show st.met.length + k ≤ K + 1; omega
        · simp only [List.length_append, List.length_cons, List.length_nil]; omega
  · -- come
    intro k HP1 a' wr
    have H1 := hide HP1
    clear HP1
    rintro ⟨u4, u6, u7, u8, u9, u10, u11, u12, u13, u14, u15, u16, u17, u18, u19, u20, u21, u22, u23, u24, u25, u26, u27, u28, u29, u30, u31, u32, u33, u34, u35, u36, u37, u38, u39, u40, u41, u42, u43, u44, u45, u46, u47, u48, u49, u50, u51, u52, u53, u54, u55, st, ma, mc, la, lc, to, rfl, hC⟩
    have htn := (unhide hC).lt
    have HS1 := hide ((unhide hC).S.setS to true)
    have c1 : wr.cell? ⟨B, 1, none⟩ = some (.slice (some ⟨S, 0, none⟩) g.length g.length) := (unhide hC).S.rB.cell 1 rfl
    obtain ⟨b, hb⟩ : ∃ b, st.shut[to]? = some b := ⟨_, List.getElem?_eq_getElem (by rw [(unhide hC).S.len.1]; exact htn)⟩
    have cb := (unhide hC).S.rS.cell to (bs_at hb)
    have fb := k_rowF (unhide hC).S.rS to
    have c4 : (wr.setCell ⟨S, to, none⟩ (.bool true)).cell? ⟨B, 4, none⟩ = some (.slice ma st.met.length mc) := (unhide HS1).rB.cell 4 rfl
    have HO : Hd (∀ ob, ((wr.setCell ⟨S, to, none⟩ (.bool true)).alloc ob).ownsRow w0.heap.size 3 1 (.slice ma st.met.length mc) st.met.length (ns st.met)) := fun ob => ((unhide HS1).on (Ext.alloc _ ob)).oM
    have HLe := hide (unhide HS1).ext.size
    have hmk := (unhide hC).ok.mq
    have hlk := (unhide hC).ok.lk
    simp only [List.length_append, List.length_cons, List.length_nil] at hmk
    have hZ : (wr.setCell ⟨S, to, none⟩ (.bool true)).heap.size = wr.heap.size := by simp [World.setCell]
    have HZ := hide hZ
    clear hb hZ
    go_wp2_with (at_builtin; refine kapp_list rfl (.tmp 18) (.tmp 20) 30 rfl w0.heap.size 3 i0 (.int .i64 0) 1 8 Try.underlying30 (unhide HI) (unhide Z0) (unhide Z1) (unhide Z2) rfl (by decide) ma st.met.length mc _ rfl (unhide HO _) ⟨wr.heap.size, 0, none⟩ 1 1 [.int .i64 (to : Int)] rfl (by decide) rfl (k_new _ _ (unhide HZ).symm _ _) (k_one_int _) ?c1 ?c2 ?c3 ?_)
    case c1 => have := unhide HK; unfold maxLen; omega
    case c2 => have := unhide HK; omega
    case c3 => have := unhide HLe; have := unhide HZ; omega
    intro g' cap' w3 ho hg hw
    have S3 := hide ((unhide HS1).pushM to hg ho (hw.imp id (fun e => by rw [show ((wr.setCell ⟨S, to, none⟩ (.bool true)).alloc _).heap.size = (wr.setCell ⟨S, to, none⟩ (.bool true)).heap.size + 1 from Array.size_push .., unhide HZ]; exact e)))
    have hrB : Hd (Row w3 B 90 _) := (((unhide HS1).on (Ext.alloc _ _)).rB.grown hg (fun e => ((unhide HS1).aM B (by rw [obk_eq] at e; exact e.symm)).1 rfl))
    have fz := k_rowF (unhide hrB) 4
    have d4 : w3.cell? ⟨B, 4, none⟩ = some (.slice ma st.met.length mc) := (unhide hrB).cell 4 rfl
    clear ho hg hw hrB
    go_wp2_with fail
    refine wp_label ?_
    rename_i hKK
    exact hKK _ _ (unhide H1 _ _ ⟨_, _, _, _, _, _, _, _, _, _, _, _, _, _, _, _, _, _, _, _, _, _, _, _, _, _, _, _, _, _, _, _, _, _, _, _, _, _, _, _, _, _, _, _, _, _, _, _, _, _, _, _, _, _, _, _, to, rfl, ⟨unhide S3, (unhide hC).eq, ⟨(unhide hC).ok.nx, (unhide hC).ok.mq, (unhide hC).ok.lk⟩⟩⟩)
  · intro HJ0
    have H0 := hide HJ0
    clear HJ0
    go_wp2_with fail
    refine wp_label ?_
    rename_i hKK
    exact hKK _ _ (unhide H0 K1 _ _ ⟨_, _, _, _, _, _, _, _, _, _, _, _, _, _, _, _, _, _, _, _, _, _, _, _, _, _, _, _, _, _, _, _, _, _, _, _, _, _, _, _, _, _, _, _, _, _, _, _, _, _, _, st, ma, mc, la, lc, start, rfl, HC0⟩)

end Go.Proofs.Ytdnhekgbfhlhoaa
