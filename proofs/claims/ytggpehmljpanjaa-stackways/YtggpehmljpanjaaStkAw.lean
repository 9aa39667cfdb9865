/- A program of one function; what the document fixes. -/
import Derived.Test.YtggpehmljpanjaaStkCk
set_option linter.unusedSimpArgs false
set_option linter.unusedVariables false
set_option maxRecDepth 10000
namespace Go.Proofs.Ytggpehmljpanjaa
open Go.RowKit

/-- The one function of a program. -/
def oneF (code : List KI) : KF := ⟨⟨#[109, 97, 105, 110]⟩, 0, 0, [nilP], code⟩

/-- A list of one nothing. -/
theorem repL_nil1 {w : World} {F : Nat → Prop} {b : Nat} (hb : F b) (h : w.heap[b]? = some (.cells #[.int .i64 0, .int .i64 0, .complex .f64 0 0, .string ⟨#[]⟩, .slice none 0 0] 31 (0, 0))) : RepL w F [nilP] (some ⟨b, 0, none⟩) := by
  refine RepL.cons (x := nilP) (a := none) (cap := 0) ⟨hb, k_rowC h 0 rfl, k_rowC h 1 rfl, k_rowC h 2 rfl, k_rowC h 3 rfl, k_rowC h 4 rfl, ⟨by decide, by decide, by decide, by decide, by decide, by decide, by decide, by decide, by decide⟩, by simp [RepL, nilP]⟩ (by simp [RepL])

set_option maxHeartbeats 1000000 in
theorem one_any (code : List KI) (a : Option Addr) (cap : Nat) (w : World) (hc : RepC w (In w) a code) :
    Calls Try.prog 18 #[.slice a code.length cap] w fun e w' => ∃ pa, e = .returned (kpV pa 1 1 0) ∧ RepP w' (In w') pa [oneF code] ∧ Ext w w' := by
  have HR : Hd (∀ W3 : World, Ext w W3 → W3.heap[w.heap.size + 1]? = some (.cells #[.int .i64 0, .int .i64 0, .complex .f64 0 0, .string ⟨#[]⟩, .slice none 0 0] 31 (0, 0)) → W3.heap[w.heap.size + 1 + 1]? = some (.cells #[.string ⟨#[109, 97, 105, 110]⟩, .int .i64 0, .int .i64 0, .slice (some ⟨w.heap.size + 1, 0, none⟩) 1 1, .slice a code.length cap] 34 (0, 0)) →
      RepP W3 (In W3) (some ⟨w.heap.size + 1 + 1, 0, none⟩) [oneF code]) := fun W3 e h1 h2 => by
    refine Or.inr ⟨_, _, rfl, k_lt h2, fun j f hf => ?_⟩
    cases j with
    | zero =>
      simp at hf
      subst hf
      exact ⟨some ⟨w.heap.size + 1, 0, none⟩, 1, a, cap, k_rowC h2 0 rfl, k_rowC h2 1 rfl, k_rowC h2 2 rfl, k_rowC h2 3 rfl, k_rowC h2 4 rfl, repL_nil1 (k_lt h1) h1, hc.ext e⟩
    | succ j => simp at hf
  clear hc
  generalize code.length = n at *
  go_enter Try.func18, Try.ntmps18
  go_wp2_with fail
  have e1 := Ext.alloc w (.cells #[.slice (some ⟨w.heap.size + 1 + 1, 0, none⟩) 1 1, .int .i64 0] 27)
  have e2 := Ext.alloc (w.alloc (.cells #[.slice (some ⟨w.heap.size + 1 + 1, 0, none⟩) 1 1, .int .i64 0] 27)) (.cells #[.int .i64 0, .int .i64 0, .complex .f64 0 0, .string ⟨#[]⟩, .slice none 0 0] 31)
  have e3 := Ext.alloc ((w.alloc (.cells #[.slice (some ⟨w.heap.size + 1 + 1, 0, none⟩) 1 1, .int .i64 0] 27)).alloc (.cells #[.int .i64 0, .int .i64 0, .complex .f64 0 0, .string ⟨#[]⟩, .slice none 0 0] 31)) (.cells #[.string ⟨#[109, 97, 105, 110]⟩, .int .i64 0, .int .i64 0, .slice (some ⟨w.heap.size + 1, 0, none⟩) 1 1, .slice a n cap] 34)
  have hx := e1.trans (e2.trans e3)
  refine bodyPost_ret (v := kpV (some ⟨w.heap.size + 1 + 1, 0, none⟩) 1 1 0) (by simp [results, Try.results18, go_sem]) rfl ⟨_, rfl, unhide HR _ hx ?_ ?_, hx⟩
  · refine (e3.block _ (by simp only [heap_alloc_size]; omega)).trans ?_
    have := Go.heap_alloc_new (w.alloc (.cells #[.slice (some ⟨w.heap.size + 1 + 1, 0, none⟩) 1 1, .int .i64 0] 27)) (.cells #[.int .i64 0, .int .i64 0, .complex .f64 0 0, .string ⟨#[]⟩, .slice none 0 0] 31)
    rw [heap_alloc_size] at this
    exact this
  · have := Go.heap_alloc_new ((w.alloc (.cells #[.slice (some ⟨w.heap.size + 1 + 1, 0, none⟩) 1 1, .int .i64 0] 27)).alloc (.cells #[.int .i64 0, .int .i64 0, .complex .f64 0 0, .string ⟨#[]⟩, .slice none 0 0] 31)) (.cells #[.string ⟨#[109, 97, 105, 110]⟩, .int .i64 0, .int .i64 0, .slice (some ⟨w.heap.size + 1, 0, none⟩) 1 1, .slice a n cap] 34)
    rw [heap_alloc_size, heap_alloc_size] at this
    exact this

theorem repZ_at {w : World} {F : Nat → Prop} {a : Option Addr} {l : List Int} (h : RepZ w F a l) {j : Nat} {x : Int} (hx : l[j]? = some x) : ∃ b, a = some ⟨b, 0, none⟩ ∧ w.cell? ⟨b, j, none⟩ = some (.int .i64 x) := by
  rcases h with h | ⟨b, e, _, hc⟩
  · rw [h] at hx; simp at hx
  · exact ⟨b, e, hc j x hx⟩

theorem oneF_b {code : List KI} (h1 : code.length ≤ 1000000) (h2 : KBd code) : KfB [oneF code] := by
  intro f hf
  rw [List.mem_singleton.1 hf]
  exact ⟨by simp [oneF], h1, h2⟩

theorem awk1 : kHgt [oneF [⟨4, 0, 0⟩]] 0 100 = some ([], 13) := by decide +kernel
theorem awk2 : kHgt [oneF [⟨7, 0, 0⟩]] 0 100 = some ([], 14) := by decide +kernel
theorem awk3 : kHgt [oneF [⟨1, 0, 0⟩, ⟨10, 0, 0⟩]] 0 100 = some ([0, 1], 0) := by decide +kernel

theorem repC_one (w : World) (x y z : Int) : RepC (w.alloc (.cells #[.int .i64 x, .int .i64 y, .int .i64 z] 23)) (In (w.alloc (.cells #[.int .i64 x, .int .i64 y, .int .i64 z] 23))) (some ⟨w.heap.size, 0, none⟩) [⟨x, y, z⟩] := by
  have h := Go.heap_alloc_new w (.cells #[.int .i64 x, .int .i64 y, .int .i64 z] 23)
  refine Or.inr ⟨_, _, rfl, k_lt h, fun j i hi => ?_⟩
  cases j with
  | zero => simp at hi; subst hi; exact ⟨k_rowC h 0 rfl, k_rowC h 1 rfl, k_rowC h 2 rfl⟩
  | succ j => simp at hi
theorem repC_two (w : World) (x y z p q r : Int) : RepC (w.alloc (.cells #[.int .i64 x, .int .i64 y, .int .i64 z, .int .i64 p, .int .i64 q, .int .i64 r] 23)) (In (w.alloc (.cells #[.int .i64 x, .int .i64 y, .int .i64 z, .int .i64 p, .int .i64 q, .int .i64 r] 23))) (some ⟨w.heap.size, 0, none⟩) [⟨x, y, z⟩, ⟨p, q, r⟩] := by
  have h := Go.heap_alloc_new w (.cells #[.int .i64 x, .int .i64 y, .int .i64 z, .int .i64 p, .int .i64 q, .int .i64 r] 23)
  refine Or.inr ⟨_, _, rfl, k_lt h, fun j i hi => ?_⟩
  match j with
  | 0 => simp at hi; subst hi; exact ⟨k_rowC h 0 rfl, k_rowC h 1 rfl, k_rowC h 2 rfl⟩
  | 1 => simp at hi; subst hi; exact ⟨k_rowC h 3 rfl, k_rowC h 4 rfl, k_rowC h 5 rfl⟩
  | j + 2 => simp at hi

/-- Heights of a program of one function. -/
theorem one_hgt (code : List KI) (K : Nat) (q : List Int × Int) (hn : code.length ≤ 1000000) (hb : KBd code) (hK : K ≤ 1000000) (hq : kHgt [oneF code] 0 K = some q) (pa : Option Addr) (W : World) (hp : RepP W (In W) pa [oneF code]) :
    Calls Try.prog 17 #[kpV pa 1 1 0, .int .i64 0] W (HgR W q) := heights_w [oneF code] 0 pa 1 0 K q W hp (by simp) (oneF_b hn hb) hK hq

set_option maxHeartbeats 1000000 in
theorem awake_s (w : World) : Calls Try.prog 9 #[] w fun e w' => e = .returned (.bool true) ∧ Ext w w' := by
  have O1 := hide (fun (W : World) => one_any [⟨4, 0, 0⟩] _ 1 _ (repC_one W 4 0 0))
  have O2 := hide (fun (W : World) => one_any [⟨7, 0, 0⟩] _ 1 _ (repC_one W 7 0 0))
  have O3 := hide (fun (W : World) => one_any [⟨1, 0, 0⟩, ⟨10, 0, 0⟩] _ 2 _ (repC_two W 1 0 0 10 0 0))
  have H1 := hide (one_hgt [⟨4, 0, 0⟩] 100 _ (by simp) (by intro i hi; simp at hi; subst hi; decide) (by omega) awk1)
  have H2 := hide (one_hgt [⟨7, 0, 0⟩] 100 _ (by simp) (by intro i hi; simp at hi; subst hi; decide) (by omega) awk2)
  have H3 := hide (one_hgt [⟨1, 0, 0⟩, ⟨10, 0, 0⟩] 100 _ (by simp) (by intro i hi; simp at hi; rcases hi with rfl | rfl <;> decide) (by omega) awk3)
  have HP := hide (fun W => pops_any ⟨5, 0, 0⟩ W)
  go_enter Try.func9, Try.ntmps9
  go_wp2_with (first
    | (have S1 := unhide O1; go_at_call 18; refine Calls.mono (S1 _) ?_; rintro e w1 ⟨p1, rfl, r1, hw⟩; have R1 := hide r1; have X1 := hide ((Ext.alloc _ _).trans hw); clear r1 hw S1 O1)
    | (have S1 := unhide R1; go_at_call 17; refine Calls.mono (unhide H1 _ _ S1) ?_; rintro e w2 ⟨ha1, hc1, rfl, _, _, hw⟩; have X2 := hide ((unhide X1).trans hw); clear hw S1 R1)
    | (have S1 := unhide X2; have S2 := unhide O2; go_at_call 18; refine Calls.mono (S2 _) ?_; rintro e w3 ⟨p3, rfl, r3, hw⟩; have R3 := hide r3; have X3 := hide ((unhide X2).trans ((Ext.alloc _ _).trans hw)); clear r3 hw S1 S2 O2)
    | (have S1 := unhide R3; go_at_call 17; refine Calls.mono (unhide H2 _ _ S1) ?_; rintro e w4 ⟨ha2, hc2, rfl, _, _, hw⟩; have X4 := hide ((unhide X3).trans hw); clear hw S1 R3)
    | (have S1 := unhide X4; have S2 := unhide O3; go_at_call 18; refine Calls.mono (S2 _) ?_; rintro e w5 ⟨p5, rfl, r5, hw⟩; have R5 := hide r5; have X5 := hide ((unhide X4).trans ((Ext.alloc _ _).trans hw)); clear r5 hw S1 S2 O3)
    | (have S1 := unhide R5; go_at_call 17; refine Calls.mono (unhide H3 _ _ S1) ?_; rintro e w6 ⟨ha3, hc3, rfl, hz, _, hw⟩; have X6 := hide ((unhide X5).trans hw); obtain ⟨b3, rfl, hc3⟩ := repZ_at hz (j := 1) (x := 1) rfl; clear hw S1 R5 hz)
    | (have S1 := unhide X6; go_at_call 10; refine Calls.mono (unhide HP _) ?_; rintro e w7 ⟨rfl, hw⟩; have X7 := hide ((unhide X6).trans hw); clear hw S1))
  go_ret
  exact ⟨ret_bool (by simp [kPops]), unhide X7⟩

end Go.Proofs.Ytggpehmljpanjaa
