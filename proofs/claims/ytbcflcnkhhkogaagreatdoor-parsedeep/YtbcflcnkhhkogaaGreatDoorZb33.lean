/- The writer of parse: some words, one by one. -/
import Derived.Test.YtbcflcnkhhkogaaGreatDoorZb32
set_option linter.unusedSimpArgs false
set_option linter.unusedVariables false
set_option maxRecDepth 10000

namespace Go.Proofs.YtbcflcnkhhkogaaGreatDoor
open Go.RowKit

/-- A word laid down, or why not. -/
def wdS (p : List UInt8 × Bool) (s : ByteArray) : List UInt8 × Bool := if 4000 < wdN p.1 s then (p.1, true) else (wdL p.1 s, p.2)
theorem wdS_len {p : List UInt8 × Bool} (h : p.1.length ≤ 4000) (s : ByteArray) : (wdS p s).1.length ≤ 4000 := by
  unfold wdS
  split
  · exact h
  · rename_i hc
    unfold wdN at hc
    unfold wdL
    rw [List.length_append, List.length_append, show s.data.toList.length = s.size from Array.length_toList ..]
    split
    · simp; omega
    · simp; omega

theorem word_any (g : Nat) (p : List UInt8 × Bool) (n : Int) (s : ByteArray) (w : World) (h : Wr w g p.1 n p.2) (hl : p.1.length ≤ 4000) (hs : s.size ≤ 100000000) :
    Calls Tryz.prog 99 #[.pointer (some ⟨g, 0, none⟩), .string s] w fun e w' => e = .returned (.tuple #[]) ∧ Wr w' g (wdS p s).1 n (wdS p s).2 ∧ WrK g w w' := by
  unfold wdS
  by_cases hc : 4000 < wdN p.1 s
  · rw [if_pos hc]
    exact word_long g p.1 n p.2 s w h hl hs hc
  · rw [if_neg hc]
    exact word_fits g p.1 n p.2 s w h (by omega)

/-- Some words laid down. -/
def wdsS : List UInt8 × Bool → List ByteArray → List UInt8 × Bool
  | p, [] => p
  | p, s :: r => wdsS (wdS p s) r
theorem wdsS_len : ∀ (ss : List ByteArray) {p : List UInt8 × Bool}, p.1.length ≤ 4000 → (wdsS p ss).1.length ≤ 4000 := by
  intro ss
  induction ss with
  | nil => intro p h; exact h
  | cons s r ih => intro p h; rw [wdsS]; exact ih (wdS_len h s)
abbrev strO (ss : List ByteArray) : Obj := .cells (ss.map Value.string).toArray 9 (0, 0)
theorem strO_not {w : World} {k : Nat} {ss : List ByteArray} (h : w.heap[k]? = some (strO ss)) : NotB (w.heap[k]?) := by
  intro cs f e
  rw [h] at e
  injection e with e
  injection e with _ e _
  exact absurd e (by decide)

set_option maxHeartbeats 1000000 in
theorem words_any (g : Nat) (p : List UInt8 × Bool) (n : Int) (ss : List ByteArray) (k c : Nat) (w : World) (h : Wr w g p.1 n p.2) (hl : p.1.length ≤ 4000) (hs : ∀ s ∈ ss, s.size ≤ 100000000) (hk : w.heap[k]? = some (strO ss)) (hkg : k ≠ g) (hn : ss.length ≤ 1000) :
    Calls Tryz.prog 65 #[.pointer (some ⟨g, 0, none⟩), .slice (some ⟨k, 0, none⟩) ss.length c] w fun e w' => e = .returned (.tuple #[]) ∧ Wr w' g (wdsS p ss).1 n (wdsS p ss).2 ∧ WrK g w w' := by
  have HW := hide (fun (p : List UInt8 × Bool) (s : ByteArray) (W : World) (h : Wr W g p.1 n p.2) (hl : p.1.length ≤ 4000) (hs : s.size ≤ 100000000) => word_any g p n s W h hl hs)
  have HS := hide hs
  have HK := hide hk
  have HN := hide (strO_not hk)
  have hkl : k < w.heap.size := (Array.getElem?_eq_some_iff.1 hk).1
  have H0 := hide h
  have HL := hide hl
  clear h hl hs hk
  obtain ⟨R, hR⟩ : ∃ R, R = wdsS p ss := ⟨_, rfl⟩
  rw [← hR]
  have HR : Hd (wdsS p (ss.drop 0) = R) := hR.symm
  clear hR
  generalize hM : ss.length = m at *
  go_enter Tryz.func65, Tryz.ntmps65
  go_wp2_with fail
  go_loopw [8] (fun t wr => ∃ (j : Nat) (q : List UInt8 × Bool), t = .int .i64 j ∧ j ≤ m ∧ Hd (wdsS q (ss.drop j) = R) ∧ Hd (q.1.length ≤ 4000) ∧ Hd (Wr wr g q.1 n q.2) ∧ Hd (WrK g w wr)) (fun t _ => m - (intOf t).toNat)
  case atStart => exact ⟨0, p, rfl, by omega, HR, HL, H0, WrK.refl g w⟩
  case round =>
    clear HR HL H0
    obtain ⟨j, q, rfl, hj, hE, hQ, hW, hF⟩ := hrel
    by_cases hlt : j < m
    · obtain ⟨s, hs⟩ : ∃ s, ss[j]? = some s := ⟨_, List.getElem?_eq_getElem (by omega)⟩
      have hd : ss.drop j = s :: ss.drop (j + 1) := by
        obtain ⟨h1, h2⟩ := List.getElem?_eq_some_iff.1 hs
        rw [List.drop_eq_getElem_cons h1, h2]
      have hE2 := unhide hE
      rw [hd, wdsS] at hE2
      have HE2 := hide hE2
      have hrow := ((unhide hF).keep k hkl hkg (unhide HN)).trans (unhide HK)
      have hc : wr.cell? ⟨k, j, none⟩ = some (.string s) := rowC hrow j (by simp [hs])
      have hss := hide (unhide HS s (List.mem_of_getElem? hs))
      clear hE2 hd hs hrow
      go_wp2_with (go_at_call 99; refine Calls.mono (unhide HW q s _ (unhide hW) (unhide hQ) (unhide hss)) ?_; rintro e w2 ⟨rfl, h2, k2⟩; have W2 := hide h2; have K2 := hide ((unhide hF).trans k2); clear h2 k2)
      go_roundw
      case rel => exact ⟨j + 1, wdS q s, by go_num, by omega, HE2, wdS_len (unhide hQ) s, W2, K2⟩
      case measure => simp [intOf]; omega
    · obtain rfl : j = m := by omega
      have HQR : Hd (q = R) := by
        have := unhide hE
        rw [List.drop_eq_nil_of_le (by omega)] at this
        exact this
      go_wp2_with fail
      go_end0
      rw [← unhide HQR]
      exact ⟨rfl, unhide hW, unhide hF⟩

end Go.Proofs.YtbcflcnkhhkogaaGreatDoor
