/- The programs of StackForms. -/
import Derived.Test.YtggpehmljpanjaaStkRow
import Derived.Test.YtggpehmljpanjaaStkMask
set_option linter.unusedSimpArgs false
set_option linter.unusedVariables false
set_option maxRecDepth 10000
namespace Go.Proofs.Ytggpehmljpanjaa
open Go.RowKit

theorem rintK (n : Int) (w : World) : Calls Try.prog 7 #[.int .i64 n] w fun e w' => e = .returned (.agg #[.int .i64 1, .int .i64 n, .complex .f64 0 0, .string ⟨#[]⟩, .slice none 0 0]) ∧ Ext w w' := by
  go_enter Try.func7, Try.ntmps7
  go_wp2_with fail
  go_returns
  exact ⟨rfl, Ext.alloc _ _⟩

def oneP : PV := .mk 1 1 0 0 ⟨#[]⟩ []
/-- The code that an instruction is held in. -/
def foC (i : KI) : List KI := if i.op = 7 ∨ i.op = 8 then [⟨1, 0, 0⟩, ⟨10, 0, 0⟩, i, ⟨4, 0, 0⟩] else [⟨1, 0, 0⟩, ⟨10, 0, 0⟩, i]
def foF (i : KI) : KF := ⟨⟨#[]⟩, 0, 3, [nilP, oneP], foC i⟩

theorem repL_nil2 {w : World} {F : Nat → Prop} {b : Nat} (hb : F b) (h : w.heap[b]? = some (.cells #[.int .i64 0, .int .i64 0, .complex .f64 0 0, .string ⟨#[]⟩, .slice none 0 0, .int .i64 1, .int .i64 1, .complex .f64 0 0, .string ⟨#[]⟩, .slice none 0 0] 31 (0, 0))) : RepL w F [nilP, oneP] (some ⟨b, 0, none⟩) := by
  refine RepL.cons (x := nilP) (a := none) (cap := 0) ⟨hb, k_rowC h 0 rfl, k_rowC h 1 rfl, k_rowC h 2 rfl, k_rowC h 3 rfl, k_rowC h 4 rfl, ⟨by decide, by decide, by decide, by decide, by decide, by decide, by decide, by decide, by decide⟩, by simp [RepL, nilP]⟩ ?_
  refine RepL.cons (x := oneP) (a := none) (cap := 0) ⟨hb, k_rowC h 5 rfl, k_rowC h 6 rfl, k_rowC h 7 rfl, k_rowC h 8 rfl, k_rowC h 9 rfl, ⟨by decide, by decide, by decide, by decide, by decide, by decide, by decide, by decide, by decide⟩, by simp [RepL, oneP]⟩ (by simp [RepL])

theorem RowK.rep2 {w wr : World} {l : List KI} {a : Option Addr} {n c : Nat} (h : RowK w wr l (.slice a n c)) : RepC wr (fun b => w.heap.size ≤ b ∧ b < wr.heap.size) a l := by
  rcases h.rep with e | ⟨b, o, rfl, hf, hc⟩
  · exact Or.inl e
  · exact Or.inr ⟨b, o, rfl, h.own.lt b rfl, hc⟩

/-- What is made of it all. -/
theorem fo_shut (i : KI) (w : World) (a : Option Addr) (n c : Nat) (w5 W7 : World) (w3 : World) (hw3 : w.heap.size + 1 + 1 = w3.heap.size) (hR : RowK w3 w5 (foC i) (.slice a n c)) (hn : (foC i).length = n)
    (h1 : W7.heap[w5.heap.size]? = some (.cells #[.int .i64 0, .int .i64 0, .complex .f64 0 0, .string ⟨#[]⟩, .slice none 0 0, .int .i64 1, .int .i64 1, .complex .f64 0 0, .string ⟨#[]⟩, .slice none 0 0] 31 (0, 0)))
    (h2 : W7.heap[w5.heap.size + 1]? = some (.cells #[.string ⟨#[]⟩, .int .i64 0, .int .i64 3, .slice (some ⟨w5.heap.size, 0, none⟩) 2 2, .slice a n c] 34 (0, 0)))
    (h3 : ∀ b, w.heap.size + 1 + 1 ≤ b → b < w5.heap.size → W7.heap[b]? = w5.heap[b]?) : RepP W7 (In W7) (some ⟨w5.heap.size + 1, 0, none⟩) [foF i] := by
  have hlt := k_lt h2
  refine Or.inr ⟨_, _, rfl, hlt, fun j f hf => ?_⟩
  cases j with
  | zero =>
    simp at hf
    subst hf
    refine ⟨some ⟨w5.heap.size, 0, none⟩, 2, a, c, k_rowC h2 0 rfl, k_rowC h2 1 rfl, k_rowC h2 2 rfl, k_rowC h2 3 rfl, ?_, repL_nil2 (k_lt h1) h1, hR.rep2.to (fun b hb => ⟨?_, h3 b (by have := hb.1; omega) hb.2⟩)⟩
    · have := k_rowC h2 4 rfl
      rw [← hn] at this
      exact this
    · show b < W7.heap.size
      have := hb.2
      omega
  | succ j => simp at hf

theorem RowK.lit (w : World) (i : KI) : RowK w (w.alloc (.cells #[.int .i64 1, .int .i64 0, .int .i64 0, .int .i64 10, .int .i64 0, .int .i64 0, .int .i64 i.op, .int .i64 i.a, .int .i64 i.b] 23)) [⟨1, 0, 0⟩, ⟨10, 0, 0⟩, i] (.slice (some ⟨w.heap.size, 0, none⟩) 3 3) :=
  ⟨Ext.alloc _ _, ⟨rfl, Or.inr ⟨w.heap.size, 3, _, rfl, Nat.le_refl _, Go.heap_alloc_new w _, Nat.le_refl _, by decide, rfl, rfl⟩⟩⟩

set_option maxHeartbeats 1000000 in
theorem of_any (i : KI) (w : World) : Calls Try.prog 6 #[kiV i] w fun e w' => ∃ pa, e = .returned (kpV pa 1 1 0) ∧ RepP w' (In w') pa [foF i] ∧ Ext w w' := by
  obtain ⟨i0, hi, hz1, hz2, hz3⟩ := k_infoS
  have HI := hide hi
  have Z0 := hide hz1
  have Z1 := hide hz2
  have Z2 := hide hz3
  clear hi hz1 hz2 hz3
  obtain ⟨p, x, y⟩ := i
  have HB1 : Hd (((w.alloc (.cells #[.int .i64 p, .int .i64 x, .int .i64 y] 23)).alloc (.cells #[.slice none 0 0, .int .i64 0] 27)).heap[w.heap.size + 1]? = some (.cells #[.slice none 0 0, .int .i64 0] 27 (0, 0))) := by
    have := Go.heap_alloc_new (w.alloc (.cells #[.int .i64 p, .int .i64 x, .int .i64 y] 23)) (.cells #[.slice none 0 0, .int .i64 0] 27)
    rw [heap_alloc_size] at this
    exact this
  have RL := RowK.lit ((w.alloc (.cells #[.int .i64 p, .int .i64 x, .int .i64 y] 23)).alloc (.cells #[.slice none 0 0, .int .i64 0] 27)) ⟨p, x, y⟩
  have hsz : ((w.alloc (.cells #[.int .i64 p, .int .i64 x, .int .i64 y] 23)).alloc (.cells #[.slice none 0 0, .int .i64 0] 27)).heap.size = w.heap.size + 1 + 1 := by simp only [heap_alloc_size]
  by_cases h78 : p = 7 ∨ p = 8
  · have HF : Hd (foC ⟨p, x, y⟩ = [⟨1, 0, 0⟩, ⟨10, 0, 0⟩, ⟨p, x, y⟩, ⟨4, 0, 0⟩]) := by unfold Hd foC; rw [if_pos h78]
    have hap := RL.app rfl [⟨4, 0, 0⟩]
    rw [hsz] at hap
    have HA := hide hap.1
    have HG := hide hap.2
    have hsz2 : (((w.alloc (.cells #[.int .i64 p, .int .i64 x, .int .i64 y] 23)).alloc (.cells #[.slice none 0 0, .int .i64 0] 27)).alloc (.cells #[.int .i64 1, .int .i64 0, .int .i64 0, .int .i64 10, .int .i64 0, .int .i64 0, .int .i64 p, .int .i64 x, .int .i64 y] 23)).heap.size = w.heap.size + 1 + 1 + 1 := by simp only [heap_alloc_size]
    have HS2 := hide hsz2
    clear hap RL hsz hsz2
    have hp : ((p == 7) = true) ∨ ((p == 7) = false ∧ (p == 8) = true) := by
      rcases h78 with h | h
      · exact Or.inl (by simp [h])
      · exact Or.inr ⟨by rw [beq_eq_false_iff_ne]; omega, by simp [h]⟩
    clear h78
    rcases hp with hp7 | ⟨hp7, hp8⟩
    all_goals
      go_enter Try.func6, Try.ntmps6
      go_wp2_with (at_builtin; refine kapp_list rfl (.tmp 16) (.tmp 18) 24 rfl (w.heap.size + 1 + 1) 23 i0 (.agg #[.int .i64 0, .int .i64 0, .int .i64 0]) 3 24 Try.underlying24 (unhide HI) (unhide Z0) (unhide Z1) (unhide Z2) rfl (by decide) (some ⟨w.heap.size + 1 + 1, 0, none⟩) 3 3 _ rfl (unhide HA _) ⟨w.heap.size + 1 + 1 + 1, 0, none⟩ 1 1 [.int .i64 4, .int .i64 0, .int .i64 0] rfl (by decide) rfl (k_new _ _ (unhide HS2).symm _ _) (k_one_ki [⟨4, 0, 0⟩]) (by unfold maxLen; omega) (by omega) (by simp only [heap_alloc_size]; omega) ?_)
      intro g' cap' w4 ho hg hww
      have RK := hide (unhide HG _ w4 g' cap' hg ho)
      clear ho hg hww HG HA
      go_wp2_with (go_at_call 7; refine Calls.mono (rintK _ _) ?_; rintro e w5 ⟨rfl, hw⟩; have RK5 := hide ((unhide RK).on hw); have hrow := (unhide RK5).ext.block (w.heap.size + 1) (by simp only [heap_alloc_size]; omega); have h25 : w.heap.size + 1 + 1 ≤ w5.heap.size := (by have h0 := (unhide RK5).ext.size; simp only [heap_alloc_size] at h0; exact h0); clear hw; rw [unhide HB1] at hrow; have h6 : ∀ o1 o2 : Obj, ((w5.alloc o1).alloc o2).heap[w.heap.size + 1]? = some (.cells #[.slice none 0 0, .int .i64 0] 27 (0, 0)) := (fun o1 o2 => ((Ext.alloc (w5.alloc o1) o2).block _ (by simp only [heap_alloc_size]; omega)).trans (((Ext.alloc w5 o1).block _ (by omega)).trans hrow)); have k0 := (fun o1 o2 => k_rowC (h6 o1 o2) 0 rfl); have k1 := (fun o1 o2 => k_rowC (h6 o1 o2) 1 rfl); have kz := (fun o1 o2 => k_rowF (h6 o1 o2)); have H6 := hide h6; clear hrow h6)
      have hx : Ext w ((((w5.alloc (.cells #[.int .i64 0, .int .i64 0, .complex .f64 0 0, .string ⟨#[]⟩, .slice none 0 0, .int .i64 1, .int .i64 1, .complex .f64 0 0, .string ⟨#[]⟩, .slice none 0 0] 31)).alloc (.cells #[.string ⟨#[]⟩, .int .i64 0, .int .i64 3, .slice (some ⟨w5.heap.size, 0, none⟩) 2 2, .slice (some ⟨g', 0, none⟩) (3 + 1) cap'] 34)).setCell ⟨w.heap.size + 1, 0, none⟩ (.slice (some ⟨w5.heap.size + 1, 0, none⟩) 1 1)).setCell ⟨w.heap.size + 1, 1, none⟩ (.int .i64 0)) := by
        have e0 : Ext w ((w.alloc (.cells #[.int .i64 p, .int .i64 x, .int .i64 y] 23)).alloc (.cells #[.slice none 0 0, .int .i64 0] 27)) := (Ext.alloc _ _).trans (Ext.alloc _ _)
        have e5 : Ext w w5 := e0.trans (unhide RK5).ext
        have e6 : Ext w ((w5.alloc (.cells #[.int .i64 0, .int .i64 0, .complex .f64 0 0, .string ⟨#[]⟩, .slice none 0 0, .int .i64 1, .int .i64 1, .complex .f64 0 0, .string ⟨#[]⟩, .slice none 0 0] 31)).alloc (.cells #[.string ⟨#[]⟩, .int .i64 0, .int .i64 3, .slice (some ⟨w5.heap.size, 0, none⟩) 2 2, .slice (some ⟨g', 0, none⟩) (3 + 1) cap'] 34)) := (e5.trans (Ext.alloc _ _)).trans (Ext.alloc _ _)
        exact (e6.set (by simp only; omega) _).set (by simp only; omega) _
      refine bodyPost_ret (v := kpV (some ⟨w5.heap.size + 1, 0, none⟩) 1 1 0) ?_ rfl ⟨_, rfl, fo_shut ⟨p, x, y⟩ w _ _ _ w5 ((((w5.alloc (.cells #[.int .i64 0, .int .i64 0, .complex .f64 0 0, .string ⟨#[]⟩, .slice none 0 0, .int .i64 1, .int .i64 1, .complex .f64 0 0, .string ⟨#[]⟩, .slice none 0 0] 31)).alloc (.cells #[.string ⟨#[]⟩, .int .i64 0, .int .i64 3, .slice (some ⟨w5.heap.size, 0, none⟩) 2 2, .slice (some ⟨g', 0, none⟩) (3 + 1) cap'] 34)).setCell ⟨w.heap.size + 1, 0, none⟩ (.slice (some ⟨w5.heap.size + 1, 0, none⟩) 1 1)).setCell ⟨w.heap.size + 1, 1, none⟩ (.int .i64 0)) ((w.alloc (.cells #[.int .i64 p, .int .i64 x, .int .i64 y] 23)).alloc (.cells #[.slice none 0 0, .int .i64 0] 27)) (by simp only [heap_alloc_size]) (by rw [unhide HF]; exact unhide RK5) (by rw [unhide HF]; rfl) ?_ ?_ ?_, hx⟩
      · simp [results, Try.results6, go_sem, k0, k1, kz]
      · refine (Below.heap_setCell _ _ _ _ (by simp only; omega)).trans ((Below.heap_setCell _ _ _ _ (by simp only; omega)).trans (((Ext.alloc _ _).block _ (by simp only [heap_alloc_size]; omega)).trans (Go.heap_alloc_new w5 _)))
      · refine (Below.heap_setCell _ _ _ _ (by simp only; omega)).trans ((Below.heap_setCell _ _ _ _ (by simp only; omega)).trans ?_)
        have := Go.heap_alloc_new (w5.alloc (.cells #[.int .i64 0, .int .i64 0, .complex .f64 0 0, .string ⟨#[]⟩, .slice none 0 0, .int .i64 1, .int .i64 1, .complex .f64 0 0, .string ⟨#[]⟩, .slice none 0 0] 31)) (.cells #[.string ⟨#[]⟩, .int .i64 0, .int .i64 3, .slice (some ⟨w5.heap.size, 0, none⟩) 2 2, .slice (some ⟨g', 0, none⟩) (3 + 1) cap'] 34)
        rw [heap_alloc_size] at this
        exact this
      · intro b hb1 hb2
        exact (Below.heap_setCell _ _ _ _ (by simp only; omega)).trans ((Below.heap_setCell _ _ _ _ (by simp only; omega)).trans (((Ext.alloc _ _).block _ (by simp only [heap_alloc_size]; omega)).trans ((Ext.alloc w5 _).block _ hb2)))

  · have hp7 : (p == 7) = false := by rw [beq_eq_false_iff_ne]; omega
    have hp8 : (p == 8) = false := by rw [beq_eq_false_iff_ne]; omega
    have HF : Hd (foC ⟨p, x, y⟩ = [⟨1, 0, 0⟩, ⟨10, 0, 0⟩, ⟨p, x, y⟩]) := by unfold Hd foC; rw [if_neg h78]
    rw [hsz] at RL
    have RK := hide RL
    clear h78 RL hsz
    go_enter Try.func6, Try.ntmps6
    go_wp2_with (go_at_call 7; refine Calls.mono (rintK _ _) ?_; rintro e w5 ⟨rfl, hw⟩; have RK5 := hide ((unhide RK).on hw); have hrow := (unhide RK5).ext.block (w.heap.size + 1) (by simp only [heap_alloc_size]; omega); have h25 : w.heap.size + 1 + 1 ≤ w5.heap.size := (by have h0 := (unhide RK5).ext.size; simp only [heap_alloc_size] at h0; exact h0); clear hw; rw [unhide HB1] at hrow; have h6 : ∀ o1 o2 : Obj, ((w5.alloc o1).alloc o2).heap[w.heap.size + 1]? = some (.cells #[.slice none 0 0, .int .i64 0] 27 (0, 0)) := (fun o1 o2 => ((Ext.alloc (w5.alloc o1) o2).block _ (by simp only [heap_alloc_size]; omega)).trans (((Ext.alloc w5 o1).block _ (by omega)).trans hrow)); have k0 := (fun o1 o2 => k_rowC (h6 o1 o2) 0 rfl); have k1 := (fun o1 o2 => k_rowC (h6 o1 o2) 1 rfl); have kz := (fun o1 o2 => k_rowF (h6 o1 o2)); have H6 := hide h6; clear hrow h6)
    have hx : Ext w ((((w5.alloc (.cells #[.int .i64 0, .int .i64 0, .complex .f64 0 0, .string ⟨#[]⟩, .slice none 0 0, .int .i64 1, .int .i64 1, .complex .f64 0 0, .string ⟨#[]⟩, .slice none 0 0] 31)).alloc (.cells #[.string ⟨#[]⟩, .int .i64 0, .int .i64 3, .slice (some ⟨w5.heap.size, 0, none⟩) 2 2, .slice (some ⟨w.heap.size + 1 + 1, 0, none⟩) 3 3] 34)).setCell ⟨w.heap.size + 1, 0, none⟩ (.slice (some ⟨w5.heap.size + 1, 0, none⟩) 1 1)).setCell ⟨w.heap.size + 1, 1, none⟩ (.int .i64 0)) := by
      have e0 : Ext w ((w.alloc (.cells #[.int .i64 p, .int .i64 x, .int .i64 y] 23)).alloc (.cells #[.slice none 0 0, .int .i64 0] 27)) := (Ext.alloc _ _).trans (Ext.alloc _ _)
      have e5 : Ext w w5 := e0.trans (unhide RK5).ext
      have e6 : Ext w ((w5.alloc (.cells #[.int .i64 0, .int .i64 0, .complex .f64 0 0, .string ⟨#[]⟩, .slice none 0 0, .int .i64 1, .int .i64 1, .complex .f64 0 0, .string ⟨#[]⟩, .slice none 0 0] 31)).alloc (.cells #[.string ⟨#[]⟩, .int .i64 0, .int .i64 3, .slice (some ⟨w5.heap.size, 0, none⟩) 2 2, .slice (some ⟨w.heap.size + 1 + 1, 0, none⟩) 3 3] 34)) := (e5.trans (Ext.alloc _ _)).trans (Ext.alloc _ _)
      exact (e6.set (by simp only; omega) _).set (by simp only; omega) _
    refine bodyPost_ret (v := kpV (some ⟨w5.heap.size + 1, 0, none⟩) 1 1 0) ?_ rfl ⟨_, rfl, fo_shut ⟨p, x, y⟩ w _ _ _ w5 ((((w5.alloc (.cells #[.int .i64 0, .int .i64 0, .complex .f64 0 0, .string ⟨#[]⟩, .slice none 0 0, .int .i64 1, .int .i64 1, .complex .f64 0 0, .string ⟨#[]⟩, .slice none 0 0] 31)).alloc (.cells #[.string ⟨#[]⟩, .int .i64 0, .int .i64 3, .slice (some ⟨w5.heap.size, 0, none⟩) 2 2, .slice (some ⟨w.heap.size + 1 + 1, 0, none⟩) 3 3] 34)).setCell ⟨w.heap.size + 1, 0, none⟩ (.slice (some ⟨w5.heap.size + 1, 0, none⟩) 1 1)).setCell ⟨w.heap.size + 1, 1, none⟩ (.int .i64 0)) ((w.alloc (.cells #[.int .i64 p, .int .i64 x, .int .i64 y] 23)).alloc (.cells #[.slice none 0 0, .int .i64 0] 27)) (by simp only [heap_alloc_size]) (by rw [unhide HF]; exact unhide RK5) (by rw [unhide HF]; rfl) ?_ ?_ ?_, hx⟩
    · simp [results, Try.results6, go_sem, k0, k1, kz]
    · refine (Below.heap_setCell _ _ _ _ (by simp only; omega)).trans ((Below.heap_setCell _ _ _ _ (by simp only; omega)).trans (((Ext.alloc _ _).block _ (by simp only [heap_alloc_size]; omega)).trans (Go.heap_alloc_new w5 _)))
    · refine (Below.heap_setCell _ _ _ _ (by simp only; omega)).trans ((Below.heap_setCell _ _ _ _ (by simp only; omega)).trans ?_)
      have := Go.heap_alloc_new (w5.alloc (.cells #[.int .i64 0, .int .i64 0, .complex .f64 0 0, .string ⟨#[]⟩, .slice none 0 0, .int .i64 1, .int .i64 1, .complex .f64 0 0, .string ⟨#[]⟩, .slice none 0 0] 31)) (.cells #[.string ⟨#[]⟩, .int .i64 0, .int .i64 3, .slice (some ⟨w5.heap.size, 0, none⟩) 2 2, .slice (some ⟨w.heap.size + 1 + 1, 0, none⟩) 3 3] 34)
      rw [heap_alloc_size] at this
      exact this
    · intro b hb1 hb2
      exact (Below.heap_setCell _ _ _ _ (by simp only; omega)).trans ((Below.heap_setCell _ _ _ _ (by simp only; omega)).trans (((Ext.alloc _ _).block _ (by simp only [heap_alloc_size]; omega)).trans ((Ext.alloc w5 _).block _ hb2)))

end Go.Proofs.Ytggpehmljpanjaa
