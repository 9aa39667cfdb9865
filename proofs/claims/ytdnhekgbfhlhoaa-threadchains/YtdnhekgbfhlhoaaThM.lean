/- Move: the ends of a row of blocks led to where blocks are now. -/
import Derived.Test.YtdnhekgbfhlhoaaThX
set_option linter.unusedSimpArgs false
set_option linter.unusedVariables false
set_option maxRecDepth 10000
namespace Go.Proofs.Ytdnhekgbfhlhoaa
open Go.RowKit

/-- Where a block is now. -/
def mvP (pl : List Int) (z : Int) : Int := if hasP pl.length z then (pl[z.toNat]?).getD 0 else z
set_option maxHeartbeats 1000000 in
theorem move1_w (P : Nat) (pa : Option Addr) (pc : Nat) (pl : List Int) (z : Int) (w : World) (hn : pl.length ≤ 1000000) (hP : w.cell? ⟨P, 0, none⟩ = some (.slice pa pl.length pc)) (hr : RepI w (In w) pa pl) :
    Calls Try.prog 37 #[.int .i64 z, .pointer (some ⟨P, 0, none⟩)] w fun e w' => e = .returned (.int .i64 (mvP pl z)) ∧ w' = w := by
  have HH := hide (fun (W : World) => hasI_w pa pl.length pc z W hn)
  unfold mvP
  by_cases hz : 0 ≤ z ∧ z < pl.length
  · obtain ⟨i, rfl⟩ : ∃ i : Nat, z = i := ⟨z.toNat, by omega⟩
    obtain ⟨x, hx⟩ : ∃ x, pl[i]? = some x := ⟨_, List.getElem?_eq_getElem (by omega)⟩
    obtain ⟨b, o, rfl, _, c⟩ := hr.at hx
    have hh : hasP pl.length (i : Int) = true := decide_eq_true hz
    rw [hh] at HH
    rw [hh, if_pos rfl, show ((i : Int)).toNat = i by omega, hx]
    simp only [Option.getD_some]
    have hiz : (i : Int) < (pl.length : Int) := by omega
    clear hx hr hh
    generalize pl.length = n at *
    go_enter Try.func37, Try.ntmps37
    go_wp2_with (go_at_call 38; refine Calls.mono (unhide HH _) ?_; rintro e w1 ⟨rfl, hw⟩; obtain rfl := hw.symm; clear hw)
    go_ret
    exact ⟨rfl, rfl⟩
  · have hh : hasP pl.length z = false := decide_eq_false hz
    rw [hh] at HH
    rw [hh, if_neg (by decide)]
    clear hr hh hz
    generalize pl.length = n at *
    go_enter Try.func37, Try.ntmps37
    go_wp2_with (go_at_call 38; refine Calls.mono (unhide HH _) ?_; rintro e w1 ⟨rfl, hw⟩; obtain rfl := hw.symm; clear hw)
    go_ret
    exact ⟨rfl, rfl⟩

set_option maxHeartbeats 2000000 in
theorem ledM_w (t : RT) (P : Nat) (pa : Option Addr) (pc : Nat) (pl : List Int) (w : World) (hn : pl.length ≤ 1000000) (hP : w.cell? ⟨P, 0, none⟩ = some (.slice pa pl.length pc)) (hr : RepI w (In w) pa pl) :
    Calls Try.prog 32 #[rtV t, .func (.func 37) #[] #[.pointer (some ⟨P, 0, none⟩)]] w fun e w' => e = .returned (rtV (ledP (mvP pl) t)) ∧ Ext w w' := by
  have HM := hide (fun (W : World) (z : Int) (x : Ext w W) => move1_w P pa pc pl z W hn (x.cell hP) (hr.ext x))
  generalize mvP pl = f at *
  clear hr hP
  obtain ⟨k, a, tt, te⟩ := t
  unfold ledP
  simp only
  by_cases hk2 : k = 2
  · subst hk2
    rw [if_pos rfl]
    go_enter Try.func32, Try.ntmps32
    go_wp2_with fail
    go_region_with (go_at_call 37; refine Calls.mono (unhide HM _ _ (Ext.drew (ext2 _ _))) ?_; rintro e w1 ⟨rfl, hw⟩; obtain rfl := hw.symm; clear hw)
    all_goals
      go_wp2_with fail
      exact bodyPost_ret (v := rtV ⟨2, a, f tt, f te⟩) (by simp [results, Try.results32, go_sem]) rfl ⟨rfl, Ext.drew (ext2 _ _)⟩
  · rw [if_neg hk2]
    have e2 : (k == 2) = false := by simp [hk2]
    by_cases hk1 : k = 1
    · subst hk1
      rw [if_pos rfl]
      go_enter Try.func32, Try.ntmps32
      go_wp2_with (go_at_call 37; refine Calls.mono (unhide HM _ _ (ext2 _ _)) ?_; rintro e w1 ⟨rfl, hw⟩; obtain rfl := hw.symm; clear hw)
      exact bodyPost_ret (v := rtV ⟨1, a, f tt, te⟩) (by simp [results, Try.results32, go_sem]) rfl ⟨rfl, ext2 _ _⟩
    · rw [if_neg hk1]
      have e1 : (k == 1) = false := by simp [hk1]
      go_enter Try.func32, Try.ntmps32
      go_wp2_with fail
      exact bodyPost_ret (v := rtV ⟨k, a, tt, te⟩) (by simp [results, Try.results32, go_sem]) rfl ⟨rfl, ext2 _ _⟩

/-- Under way: the first i blocks are moved. -/
structure MvI (w wr : World) (base g cap : Nat) (l l2 : List RB) (ads : List (Option Addr × Nat)) (f : Int → Int) (P : Nat) (pv : Value) (i : Nat) : Prop where
  gb : w.grownBy wr (some g)
  bl : BlS wr base g cap l2 ads
  box : Row wr P 30 [pv]
  len : l2.length = l.length
  don : ∀ (k : Nat) (b : RB), k < i → l[k]? = some b → l2[k]? = some ⟨b.c, ledP f b.t⟩
  rest : ∀ k : Nat, i ≤ k → l2[k]? = l[k]?
theorem MvI.step {w wr wz : World} {base g cap : Nat} {l l2 : List RB} {ads : List (Option Addr × Nat)} {f : Int → Int} {P : Nat} {pv : Value} {i : Nat} {b : RB} (h : MvI w wr base g cap l l2 ads f P pv i) (x : Ext wr wz) (hi : l[i]? = some b) (hP : P ≠ g) {u : RT} (hu : u = ledP f b.t) :
    MvI w ((((wz.setCell ⟨g, i * 5 + 1, none⟩ (.int .i64 u.k)).setCell ⟨g, i * 5 + 2, none⟩ (.int .i64 u.a)).setCell ⟨g, i * 5 + 3, none⟩ (.int .i64 u.t)).setCell ⟨g, i * 5 + 4, none⟩ (.int .i64 u.e)) base g cap l (l2.set i ⟨b.c, u⟩) ads f P pv (i + 1) := by
  have hi2 : l2[i]? = some b := by rw [h.rest i (Nat.le_refl _)]; exact hi
  have hil := (List.getElem?_eq_some_iff.1 hi2).1
  refine ⟨gb_trans (gb_trans h.gb (gb_ext x _)) (gb_setT wz g i u), (h.bl.on x).setT hi2 u, ((((h.box.on x).other hP _ _).other hP _ _).other hP _ _).other hP _ _, by rw [List.length_set]; exact h.len, fun q b2 hq hb2 => ?_, fun q hq => ?_⟩
  · rw [List.getElem?_set]
    split
    · rename_i e
      subst e
      rw [hi] at hb2
      injection hb2 with hb2
      subst hb2
      first | rw [if_pos hil, hu] | rw [hu]
    · exact h.don q b2 (by omega) hb2
  · rw [List.getElem?_set, if_neg (by omega)]
    exact h.rest q (by omega)
theorem MvI.done {w wr : World} {base g cap : Nat} {l l2 : List RB} {ads : List (Option Addr × Nat)} {f : Int → Int} {P : Nat} {pv : Value} (h : MvI w wr base g cap l l2 ads f P pv l.length) : BlS wr base g cap (l.map (fun b => ⟨b.c, ledP f b.t⟩)) ads := by
  have : l2 = l.map (fun b => ⟨b.c, ledP f b.t⟩) := by
    apply List.ext_getElem?
    intro k
    by_cases hk : k < l.length
    · have hb := List.getElem?_eq_getElem hk
      rw [h.don k _ hk hb, List.getElem?_map, hb]
      rfl
    · rw [List.getElem?_eq_none (by rw [h.len]; omega), List.getElem?_eq_none (by simp; omega)]
  rw [← this]
  exact h.bl

set_option maxHeartbeats 2000000 in
theorem move_w (base g cap : Nat) (l : List RB) (ads : List (Option Addr × Nat)) (pa : Option Addr) (pc m : Nat) (pl : List Int) (w : World) (hn : l.length ≤ 1000000) (hm : m = pl.length) (hm2 : m ≤ 1000000) (hb : BlS w base g cap l ads) (hr : RepI w (fun q => q < w.heap.size ∧ q ≠ g) pa pl) :
    Calls Try.prog 25 #[.slice (some ⟨g, 0, none⟩) l.length cap, .slice pa m pc] w fun e w' => e = .returned (.tuple #[]) ∧ BlS w' base g cap (l.map (fun b => ⟨b.c, ledP (mvP pl) b.t⟩)) ads ∧ w.grownBy w' (some g) := by
  have HLd := hide (fun (W : World) (t : RT) (x : w.grownBy W (some g)) (c : W.cell? ⟨w.heap.size, 0, none⟩ = some (.slice pa pl.length pc)) => ledM_w t w.heap.size pa pc pl W (by omega) c (hr.to fun b hb => ⟨Nat.lt_of_lt_of_le hb.1 x.size, x.block b hb.1 (fun e => hb.2 (by injection e))⟩))
  rw [← hm] at HLd
  have hgw := hb.row.2.1
  have S0 : Hd (MvI w (w.alloc (.cells #[.slice pa m pc] 30)) base g cap l l ads (mvP pl) w.heap.size (.slice pa m pc) 0) := ⟨gb_ext (Ext.alloc _ _) _, hb.on (Ext.alloc _ _), Row.new _ [.slice pa m pc] _, rfl, fun k _ hk => by omega, fun _ _ => rfl⟩
  have HP : Hd (w.heap.size ≠ g) := by intro e; omega
  generalize mvP pl = f at *
  obtain ⟨n, hln⟩ : ∃ n, n = l.length := ⟨_, rfl⟩
  have HN := hide hln
  rw [← hln] at hn ⊢
  clear hr hb hln hgw hm
  go_enter Try.func25, Try.ntmps25
  go_wp2_with fail
  go_loopw [7] (fun t wr => ∃ (i : Nat) (l2 : List RB), t = .int .i64 (i : Int) ∧ i ≤ n ∧ Hd (MvI w wr base g cap l l2 ads f w.heap.size (.slice pa m pc) i)) (fun t _ => n - (intOf t).toNat)
  case atStart => exact ⟨0, l, rfl, by omega, S0⟩
  case round =>
    clear S0
    obtain ⟨i, l2, rfl, hi, hS⟩ := hrel
    by_cases hlt : i < n
    · obtain ⟨b, hb⟩ : ∃ b, l[i]? = some b := ⟨_, List.getElem?_eq_getElem (by rw [← unhide HN]; exact hlt)⟩
      have hb2 : l2[i]? = some b := by rw [(unhide hS).rest i (Nat.le_refl _)]; exact hb
      obtain ⟨d0, _, c0, c1, c2, c3, c4⟩ := (unhide hS).bl.cells hb2
      obtain ⟨_, _, _, _, cur, hcur⟩ := (unhide hS).bl.row
      have HC := hide (unhide HLd wr b.t (unhide hS).gb ((unhide hS).box.cell 0 rfl))
      obtain ⟨u, hu⟩ : ∃ u, u = ledP f b.t := ⟨_, rfl⟩
      rw [← hu] at HC
      have S2 := hide (fun (wz : World) (x : Ext wr wz) => (unhide hS).step x hb (unhide HP) hu)
      have Hcur := hide hcur
      obtain ⟨bc, bk, ba, bt, be⟩ := b
      obtain ⟨uk, ua, ut, ue⟩ := u
      simp only at HC c0 c1 c2 c3 c4
      have hlt2 : (i : Int) < (n : Int) := by omega
      clear hb hb2 hu hcur hS
      go_wp2_with (go_at_call 32; refine Calls.mono (unhide HC) ?_; rintro e w2 ⟨rfl, x2⟩; have fg := (fun j : Nat => k_rowF (x2.row (unhide Hcur)) j); have c1 := x2.cell c1; have c2 := x2.cell c2; have c3 := x2.cell c3; have c4 := x2.cell c4; have S3 := hide (unhide S2 w2 x2); clear x2)
      go_roundw
      case rel => exact ⟨i + 1, _, by go_num, by omega, S3⟩
      case measure => simp [intOf]; omega
    · obtain rfl : i = n := by omega
      have Hgb := hide (unhide hS).gb
      have HD : Hd (BlS wr base g cap (l.map (fun b => ⟨b.c, ledP f b.t⟩)) ads) := by
        have h3 := unhide hS
        have e : i = l.length := unhide HN
        rw [e] at h3
        exact h3.done
      clear hS
      go_wp2_with fail
      exact bodyPost_end (v := .tuple #[]) (by simp [results, Try.results25]) rfl ⟨rfl, unhide HD, unhide Hgb⟩

end Go.Proofs.Ytdnhekgbfhlhoaa
