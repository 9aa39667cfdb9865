/- The writer of parse: an if, and what stands behind an else. · The writer of parse: a statement. · The writer of parse: a block. · The writer of parse: the names of parameters. -/
import Derived.Test.YtgkiihjakbnhcaaGreatDoorZc45
import Derived.Test.YtgkiihjakbnhcaaGreatDoorZc34
set_option linter.unusedSimpArgs false
set_option linter.unusedVariables false
set_option maxRecDepth 10000

namespace Go.Proofs.YtgkiihjakbnhcaaGreatDoor
open Go.RowKit

theorem repNL_two {w : World} {F : Nat → Prop} {p q r : PN} {a : Option Addr} (h : RepNL w F [p, q, r] a) : RepNL w F [p, q] a := by
  rw [RepNL] at h ⊢
  obtain ⟨b, off, c0, c1, c2, c3, c4, rfl, hf, hr, h0, h1, h2, h3, h4, h⟩ := h
  refine ⟨b, off, c0, c1, c2, c3, c4, rfl, hf, hr, h0, h1, h2, h3, h4, ?_⟩
  rw [RepNL] at h ⊢
  obtain ⟨b', off', f0, f1, f2, f3, f4, he, hf', hr', g0, g1, g2, g3, g4, _⟩ := h
  exact ⟨b', off', f0, f1, f2, f3, f4, he, hf', hr', g0, g1, g2, g3, g4, by rw [RepNL]; trivial⟩

end Go.Proofs.YtgkiihjakbnhcaaGreatDoor

namespace Go.Proofs.YtgkiihjakbnhcaaGreatDoor
open Go.RowKit

theorem words2 (g : Nat) (x : WS3) (s t : ByteArray) (w : World) (k : Nat) (hk : k = w.heap.size) (h : WrI w g x) (hs : s.size ≤ 100000000) (ht : t.size ≤ 100000000) :
    Calls Tryz.prog 55 #[.pointer (some ⟨g, 0, none⟩), .slice (some ⟨k, 0, none⟩) 2 2] (w.alloc (.cells #[.string s, .string t] 9)) (WrE g w (wW x [s, t])) := by
  subst hk
  refine words_new g x [s, t] w h (fun u hu => ?_) (by simp)
  simp only [List.mem_cons, List.not_mem_nil, or_false] at hu
  rcases hu with rfl | rfl <;> assumption
theorem words3 (g : Nat) (x : WS3) (s t u : ByteArray) (w : World) (k : Nat) (hk : k = w.heap.size) (h : WrI w g x) (hs : s.size ≤ 100000000) (ht : t.size ≤ 100000000) (hu : u.size ≤ 100000000) :
    Calls Tryz.prog 55 #[.pointer (some ⟨g, 0, none⟩), .slice (some ⟨k, 0, none⟩) 3 3] (w.alloc (.cells #[.string s, .string t, .string u] 9)) (WrE g w (wW x [s, t, u])) := by
  subst hk
  refine words_new g x [s, t, u] w h (fun z hz => ?_) (by simp)
  simp only [List.mem_cons, List.not_mem_nil, or_false] at hz
  rcases hz with rfl | rfl | rfl <;> assumption

end Go.Proofs.YtgkiihjakbnhcaaGreatDoor

namespace Go.Proofs.YtgkiihjakbnhcaaGreatDoor
open Go.RowKit

theorem Wr.wrong {w : World} {g : Nat} {l : List UInt8} {n : Int} {b : Bool} (h : Wr w g l n b) : w.cell? ⟨g, 2, none⟩ = some (.bool b) := by
  obtain ⟨v, h1, _⟩ := h.ex
  exact rowC h1 2 rfl

end Go.Proofs.YtgkiihjakbnhcaaGreatDoor

namespace Go.Proofs.YtgkiihjakbnhcaaGreatDoor
open Go.RowKit

def wCom (i : Nat) (x : WS3) : WS3 := if 0 < i then wW x [⟨#[44]⟩] else x
theorem comma_w (g i : Nat) (x : WS3) (w : World) (I : WrI w g x) : Calls Tryz.prog 89 #[.pointer (some ⟨g, 0, none⟩), .int .i64 i] w (WrE g w (wCom i x)) := by
  have X0 := hide I
  clear I
  unfold wCom
  by_cases h : 0 < i
  · rw [if_pos h]
    go_enter Tryz.func89, Tryz.ntmps89
    go_wp2_with (have T9 := unhide X0; go_at_call 55; refine Calls.mono (words1 g _ ⟨#[44]⟩ _ _ (by first | rfl | simp) T9 (by decide)) ?_; rintro e w1 ⟨rfl, h9, l9, k9⟩; have K1 := hide k9; have X1 := hide ((unhide X0).go k9 h9 l9); clear h9 l9 k9 T9 X0)
    go_end0
    exact ⟨rfl, (unhide X1).wr, (unhide X1).len, unhide K1⟩
  · rw [if_neg h]
    obtain rfl : i = 0 := by omega
    go_enter Tryz.func89, Tryz.ntmps89
    go_wp2_with fail
    go_end0
    exact ⟨rfl, (unhide X0).wr, (unhide X0).len, WrK.refl _ _⟩

end Go.Proofs.YtgkiihjakbnhcaaGreatDoor
