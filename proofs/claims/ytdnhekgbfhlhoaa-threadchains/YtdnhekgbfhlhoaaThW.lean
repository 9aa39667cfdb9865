/- final: where one comes to past blocks that only lead on. -/
import Derived.Test.YtdnhekgbfhlhoaaThU
set_option linter.unusedSimpArgs false
set_option linter.unusedVariables false
set_option maxRecDepth 10000
namespace Go.Proofs.Ytdnhekgbfhlhoaa
open Go.RowKit

def newP (l : List RB) (fin : List Int) (z : Int) : Bool := match l[z.toNat]?, fin[z.toNat]? with
  | some b, some x => hasP l.length z && (x == -2 && lead b)
  | _, _ => false
theorem isNewP_w (B N : Nat) (ga : Option Addr) (gc : Nat) (l : List RB) (ads : List (Option Addr × Nat)) (fin : List Int) (z : Int) (w : World) (hn : l.length ≤ 1000000) (hr : RepB w (In w) ga l ads) (hT : TrS w B N ga gc l.length fin) :
    Calls Try.prog 39 #[.pointer (some ⟨B, 0, none⟩), .int .i64 z] w fun e w' => e = .returned (.bool (newP l fin z)) ∧ Ext w w' := isNew_w B N ga gc l ads fin z w hn hr hT
theorem newP_true {l : List RB} {F : Nat → Nat} {fin : List Int} {z : Int} (h : newP l fin z = true) (hF : Fwd l F) : ∃ (i j : Nat) (b : RB), z = i ∧ l[i]? = some b ∧ b.t.t = j ∧ i < j ∧ i < l.length ∧ j < l.length ∧ F i = F j := by
  unfold newP at h
  split at h
  · rename_i b x hb hx
    simp only [Bool.and_eq_true] at h
    have hz : 0 ≤ z ∧ z < l.length := of_decide_eq_true h.1
    obtain ⟨i, rfl⟩ : ∃ i : Nat, z = i := ⟨z.toNat, by omega⟩
    rw [show ((i : Int)).toNat = i by omega] at hb
    obtain ⟨j, h1, h2, h3, h4⟩ := hF.step i b hb h.2.2
    exact ⟨i, j, b, rfl, hb, h1, h2, by omega, h3, h4⟩
  · cases h

set_option maxHeartbeats 2000000 in
theorem final_w (B N : Nat) (ga : Option Addr) (gc : Nat) (l : List RB) (ads : List (Option Addr × Nat)) (F : Nat → Nat) (fin : List Int) (z0 : Int) (w : World) (hn : l.length ≤ 1000000) (hF : Fwd l F)
    (hr : RepB w (fun q => q < w.heap.size ∧ q ≠ N) ga l ads) (hT : TrS w B N ga gc l.length fin) (hI : FinI F [] fin) :
    Calls Try.prog 28 #[.pointer (some ⟨B, 0, none⟩), .int .i64 z0] w fun e w' => e = .returned (.int .i64 (fz l.length F z0)) ∧ (∃ fin2, TrS w' B N ga gc l.length fin2 ∧ FinI F [] fin2) ∧ w.grownBy w' (some N) := by
  have hNw : N < w.heap.size := k_lt hT.row
  have HN := hide hNw
  have HR := hide (fun (W : World) (x : w.grownBy W (some N)) => show RepB W (In W) ga l ads from hr.to fun b hb => ⟨Nat.lt_of_lt_of_le hb.1 x.size, x.block b hb.1 (fun e => hb.2 (by injection e))⟩)
  have HNew := hide (fun (fin : List Int) (z : Int) (W : World) (x : RepB W (In W) ga l ads) (t : TrS W B N ga gc l.length fin) => isNewP_w B N ga gc l ads fin z W hn x t)
  have HLast := hide (fun (fin : List Int) (z : Int) (wa : Option Addr) (wn wc : Nat) (W : World) (t : TrS W B N ga gc l.length fin) (h : fin[z.toNat]? ≠ some (-3)) => last_w B N ga gc l.length fin z wa wn wc W hn t h)
  have HF := hide hF
  have S0 : Hd (FiS w w B N ga gc l F z0 z0 [] none 0 fin) := ⟨hT, gb_refl _ _, hI, fun p hp => (by cases hp), ⟨Nat.zero_le _, Or.inl rfl⟩, fun p hp => (by cases hp), rfl, World.ownsRow_nil _ _ _ _⟩
  obtain ⟨i0, hi, hz0, hz1, hz2⟩ := k_info
  have HI := hide hi
  have Z0 := hide hz0
  have Z1 := hide hz1
  have Z2 := hide hz2
  clear hi hz0 hz1 hz2 hr hT hI hF hNw
  go_enter Try.func28, Try.ntmps28
  go_wp2_with fail
  refine k_scope_loop 0 (fun k a' w' => ∃ (z : Int) (way : List Nat) (m : Nat) (wa : Option Addr) (wc : Nat) (fin : List Int) (u9 u10 u11 u12 u13 u14 u15 u16 u17 u18 u19 u20 u21 u22 u23 u24 u25 u26 u27 u28 u29 u30 : Value), a' = { tmps := #[.pointer (some ⟨B, 0, none⟩), .int .i64 z, undef, undef, .int .i64 0, .slice wa m wc, undef, undef, undef, u9, u10, u11, u12, u13, u14, u15, u16, u17, u18, u19, u20, u21, u22, u23, u24, u25, u26, u27, u28, u29, u30, undef, undef, undef, undef, undef, undef, undef, undef, undef, undef, undef, undef, undef, undef, undef, undef, undef, undef, undef], defers := [] } ∧ Hd (FiS w w' B N ga gc l F z0 z way wa wc fin) ∧ m = way.length ∧ k = ((l.length : Int) - z).toNat) rfl ?_ ?_
  · rintro k a' w' ⟨z, way, m, wa, wc, fin, u9, u10, u11, u12, u13, u14, u15, u16, u17, u18, u19, u20, u21, u22, u23, u24, u25, u26, u27, u28, u29, u30, rfl, hS, rfl, rfl⟩
    clear S0
    have HS := unhide hS
    cases hnew : newP l fin z with
    | true =>
      obtain ⟨i, j, b, rfl, hb, hbt, hij, hil, hjl, hFj⟩ := newP_true hnew (unhide HF)
      obtain ⟨b0, b1, fN, cN⟩ := HS.tr.at
      obtain ⟨x, hx⟩ : ∃ x, fin[i]? = some x := ⟨_, List.getElem?_eq_getElem (by rw [HS.tr.len]; exact hil)⟩
      have cx := cN i x hx
      obtain ⟨gg, o, _, hga, _⟩ := (unhide HR _ HS.gb).at hb
      subst hga
      have HC := hide (unhide HNew _ (i : Int) _ (unhide HR _ HS.gb) HS.tr)
      rw [hnew] at HC
      have Hb := hide hb
      have hil2 : (i : Int) < (l.length : Int) := by omega
      have Hij := hide hij
      have Hjl := hide hjl
      have HFj := hide hFj
      have Hbt := hide hbt
      clear hnew hb hx cN HS hij hjl hFj hbt
      go_wp2_with (first
        | (go_at_call 39; refine Calls.mono (unhide HC) ?_; rintro e w1 ⟨rfl, x1⟩; have X1 := hide x1; have b0 := x1.cell b0; have b1 := x1.cell b1; have cx := x1.cell cx; have fN : ∀ j : Nat, w1.frozen? ⟨N, j, none⟩ = false := (((unhide hS).tr.on x1).at).2.2.1; have HO : Hd (∀ ob, ((w1.setCell ⟨N, i, none⟩ (.int .i64 (-3))).alloc ob).ownsRow w.heap.size 3 1 (.slice wa way.length wc) way.length (ns way)) := (fun ob => k_own_heap (unhide hS).own (fun q hq => ((Ext.alloc _ ob).block q (by simp only [World.setCell, Array.size_modify]; exact Nat.lt_of_lt_of_le ((unhide hS).own.lt q hq).2 x1.size)).trans ((k_row_other rfl (fun e => by have := ((unhide hS).own.lt q hq).1; have := unhide HN; omega) _ _).trans (x1.block q ((unhide hS).own.lt q hq).2)))); clear x1)
        | (at_builtin; refine kapp_list rfl (.tmp 18) (.tmp 20) 30 rfl w.heap.size 3 i0 (.int .i64 0) 1 8 Try.underlying30 (unhide HI) (unhide Z0) (unhide Z1) (unhide Z2) rfl (by decide) wa way.length wc (ns way) rfl (unhide HO _) ⟨w1.heap.size, 0, none⟩ 1 1 [.int .i64 (i : Int)] rfl (by decide) rfl (k_new _ _ (by simp) _ _) (k_one_int _) ?c1 ?c2 ?c3 ?_))
      case c1 => have := (unhide hS).wn; unfold maxLen; omega
      case c2 => have := (unhide hS).wn; omega
      case c3 => simp only [World.alloc, World.setCell, Array.size_push, Array.size_modify]; have := (unhide hS).gb.size; have := (unhide X1).size; omega
      intro g' cap' w3 ho hgr hw
      have S3 := hide ((unhide hS).step (unhide HN) (unhide X1) hil (unhide Hij) (unhide Hjl) (unhide HFj) hgr ho)
      have b0 := (unhide S3).tr.at.1
      have b1 := (unhide S3).tr.at.2.1
      have ct := (unhide HR _ (unhide S3).gb).cellT (unhide Hb)
      rw [unhide Hbt] at ct
      clear ho hgr hw HO HC cx fN
      go_wp2_with fail
      go_step3
      refine ⟨rfl, _, ?_, ⟨(j : Int), way ++ [i], way.length + 1, _, _, _, _, _, _, _, _, _, _, _, _, _, _, _, _, _, _, _, _, _, _, _, _, _, rfl, S3, by simp, rfl⟩⟩
      have := unhide Hij
      omega
    | false =>
      obtain ⟨b0, b1, fN, cN⟩ := HS.tr.at
      have HC := hide (unhide HNew _ z _ (unhide HR _ HS.gb) HS.tr)
      rw [hnew] at HC
      have HE := hide (HS.last (unhide HF) hnew)
      have HC2 := hide (fun (W : World) (x : Ext w' W) => unhide HLast fin z wa way.length wc W (HS.tr.on x) HS.ok)
      rw [unhide HE] at HC2
      have HO := hide HS.own
      have HT := hide HS.tr
      have HG := hide HS.gb
      have HIn := hide HS.inv
      have HWl := hide HS.wl
      have Hend := hide (fun (j : Nat) (hj : j < way.length) (fin2 : List Int) (hi : FinI F (way.drop j) fin2) (p : Nat) (hp : way[j]? = some p) => HS.end hj hi hp)
      have hwn : way.length ≤ 1000000 := by have := HS.wn; omega
      obtain ⟨n, hnl⟩ : ∃ n, n = way.length := ⟨_, rfl⟩
      have Hn := hide hnl
      rw [← hnl] at HC2 HO hwn ⊢
      obtain ⟨last, hlast⟩ : ∃ last, last = fz l.length F z0 := ⟨_, rfl⟩
      rw [← hlast] at HC2 Hend
      have HLs := hide hlast
      clear hnew HS cN b0 b1 fN hS hnl hlast HE
      go_wp2_with (first
        | (go_at_call 39; refine Calls.mono (unhide HC) ?_; rintro e w1 ⟨rfl, x1⟩; have X1 := hide x1; clear x1)
        | (go_at_call 40; refine Calls.mono (unhide HC2 _ (unhide X1)) ?_; rintro e w2 ⟨rfl, hw⟩; obtain rfl := hw.symm; clear hw))
      go_loopw [37] (fun t wr => ∃ (j : Nat) (fin2 : List Int), t = .int .i64 (j : Int) ∧ j ≤ n ∧ Hd (TrS wr B N ga gc l.length fin2) ∧ Hd (FinI F (way.drop j) fin2) ∧ Hd (w.grownBy wr (some N)) ∧ Hd (wr.ownsRow w.heap.size 3 1 (.slice wa n wc) n (ns way))) (fun t _ => n - (intOf t).toNat)
      case atStart => exact ⟨0, fin, rfl, by omega, (unhide HT).on (unhide X1), unhide HIn, gb_trans (unhide HG) (gb_ext (unhide X1) _), k_own_heap (unhide HO) (fun q hq => (unhide X1).block q ((unhide HO).lt q hq).2)⟩
      case round =>
        clear HT HIn HG HO
        obtain ⟨j, fin2, rfl, hj, hT, hFi, hG, hO⟩ := hrel
        by_cases hlt : j < n
        · have hjw : j < way.length := by rw [← unhide Hn]; exact hlt
          obtain ⟨p, hp⟩ : ∃ p, way[j]? = some p := ⟨_, List.getElem?_eq_getElem hjw⟩
          obtain ⟨_, hpl⟩ := unhide HWl p (List.mem_of_getElem? hp)
          obtain ⟨wb, wo, rfl, _, cw⟩ := (own_repI (unhide hO)).at (j := j) (x := (p : Int)) (by rw [List.getElem?_map, hp]; rfl)
          obtain ⟨b0, b1, fN, cN⟩ := (unhide hT).at
          obtain ⟨x, hx⟩ : ∃ x, fin2[p]? = some x := ⟨_, List.getElem?_eq_getElem (by rw [(unhide hT).len]; exact hpl)⟩
          have cx := cN p x hx
          have FI2 := hide (unhide Hend j hjw fin2 (unhide hFi) p hp)
          have TR2 := hide ((unhide hT).set p last)
          have G2 := hide (gb_trans (unhide hG) (k_grown_set wr N p (.int .i64 last)))
          have O2 : Hd ((wr.setCell ⟨N, p, none⟩ (.int .i64 last)).ownsRow w.heap.size 3 1 (.slice (some ⟨wb, wo, none⟩) n wc) n (ns way)) := k_own_heap (unhide hO) (fun q hq => k_row_other rfl (by have := ((unhide hO).lt q hq).1; have := unhide HN; omega) _ _)
          have hlt2 : (j : Int) < (n : Int) := by omega
          have hpl2 : (p : Int) < (l.length : Int) := by omega
          clear hp hx cN hT hFi hG hO hjw
          go_wp2_with fail
          go_roundw
          case rel => exact ⟨j + 1, _, by go_num, by omega, TR2, FI2, G2, O2⟩
          case measure => simp [intOf]; omega
        · obtain rfl : j = n := by omega
          go_wp2_with fail
          simp only [Exit.jump]
          go_ret
          refine ⟨by rw [unhide HLs]; rfl, ⟨fin2, unhide hT, ?_⟩, unhide hG⟩
          have := unhide hFi
          rw [unhide Hn, List.drop_length] at this
          exact this
  · intro H
    go_wp2_with fail
    refine wp_label ?_
    rename_i hK
    refine hK _ _ (H ((l.length : Int) - z0).toNat _ _ ?_)
    exact ⟨z0, [], 0, none, 0, fin, _, _, _, _, _, _, _, _, _, _, _, _, _, _, _, _, _, _, _, _, _, _, rfl, S0, rfl, rfl⟩

end Go.Proofs.Ytdnhekgbfhlhoaa
