/- An expression's text: what parse.Expr answers at any text. -/
import Derived.Test.YtbcflcnkhhkogaaGreatDoorZb29
set_option linter.unusedSimpArgs false
set_option linter.unusedVariables false
set_option maxRecDepth 10000

namespace Go.Proofs.YtbcflcnkhhkogaaGreatDoor
open Go.RowKit

/-- A reader does not lean on a block that holds a node of nothing. -/
theorem St.apart {w : World} {g len N : Nat} {st : PS} (h : St w g len st) (hN : w.heap[N]? = some (nodO 0 0 ⟨#[]⟩ 0 (.slice none 0 0))) (hne : N ≠ g) (w' : World) (hk : ∀ b, b ≠ N → w'.heap[b]? = w.heap[b]?) : St w' g len st := by
  obtain ⟨T, h1, a, cap, rfl, h3, h4, h5⟩ := h.ex
  refine ⟨_, (hk g (fun e => hne e.symm)).trans h1, a, cap, rfl, h3, h4, ?_⟩
  rcases h5 with h5 | ⟨b, off, rfl, hb, hc⟩
  · exact Or.inl h5
  · cases hts : st.ts with
    | nil => exact Or.inl rfl
    | cons x r =>
      refine Or.inr ⟨b, off, rfl, hb, ?_⟩
      rw [hts] at hc
      by_cases hbN : b = N
      · exfalso
        subst hbN
        have c1 := hc 1 (.string x.t) (by simp [tkC])
        have c3 := hc 3 (.int .i64 x.o) (by simp [tkC])
        rw [cell_of_row w b _ _ _ (0, 0) hN] at c1 c3
        match off, c1, c3 with
        | 0, c1, _ => simp at c1
        | 1, _, c3 => simp at c3
        | 2, c1, _ => simp at c1
        | 3, c1, _ => simp at c1
        | off + 4, c1, _ => simp at c1
      · intro j u hu
        rw [World.cell?_of_block (w := w) (hk b hbN)]
        exact hc j u hu

theorem set5_other (w : World) (g b : Nat) (k o : Int) (s : ByteArray) (n : Int) (l : Value) (hb : b ≠ g) : (set5 w g k o s n l).heap[b]? = w.heap[b]? := by
  unfold set5
  rw [Below.heap_setCell _ _ _ _ hb, Below.heap_setCell _ _ _ _ hb, Below.heap_setCell _ _ _ _ hb, Below.heap_setCell _ _ _ _ hb, Below.heap_setCell _ _ _ _ hb]

/-- What parse.Expr answers. -/
def ExprOf (q : PN × PS) (w : World) (e : Ending) (w' : World) : Prop :=
  Ext w w' ∧ ((q.2.e ≠ 0 ∧ e = .returned (.tuple #[.agg #[.int .i64 0, .int .i64 0, .string ⟨#[]⟩, .int .i64 0, .slice none 0 0], .int .i64 q.2.pl, .int .i64 q.2.e])) ∨
    (q.2.e = 0 ∧ ∃ v, e = .returned (.tuple #[v, .int .i64 0, .int .i64 0]) ∧ RepN w' (Fr w.heap.size w'.heap.size) q.1 v))

set_option maxHeartbeats 1000000 in
theorem exprT_any (s : ByteArray) (f : Nat) (w : World) (he : Er w) (hO : Opx w) (hmax : s.size ≤ 140737488355328) (hf : (begP s).ts.length < f) (hf2 : f ≤ 100000) :
    Calls Tryz.prog 9 #[.string s] w (ExprOf (xrP s f) w) := by
  have HBg := hide (fun (W : World) (x : Ext w W) => pbegin_any s W (he.on x) hmax)
  have HX := hide (fun gg W (x : Rs W gg s.size (begP s)) => exIs gg s.size f hf2 (begP s) W hf x)
  have HFi := hide (fun gg W (x : St W gg s.size (exP s.size f (begP s)).2) => finish_any s.size gg _ W x)
  have hp := opx_lt hO
  have HO := hide hO
  obtain ⟨fq, hfq⟩ : ∃ fq, fq = finP s.size (exP s.size f (begP s)).2 := ⟨_, rfl⟩
  have hq : xrP s f = ((exP s.size f (begP s)).1, fq) := by rw [hfq]; rfl
  rw [hq]
  rw [← hfq] at HFi
  clear hfq hq he hO hf
  generalize exP s.size f (begP s) = q at *
  generalize begP s = st0 at *
  obtain ⟨⟨k, o, ss, nn, l⟩, st1⟩ := q
  obtain ⟨ts, op, pl, er⟩ := fq
  by_cases h0 : er = 0
  · subst h0
    go_enter Tryz.func9, Tryz.ntmps9
    go_wp2_with (first
      | (go_at_call 21; refine Calls.mono (unhide HBg _ (Ext.alloc _ _)) ?_; rintro e w1 ⟨gg, rfl, hgg, hs, hw⟩; have hgg : w.heap.size + 1 ≤ gg := (by rw [size_alloc] at hgg; exact hgg); have RN1 := hide (hw.row (Go.heap_alloc_new w _)); have X1 := hide ((Ext.alloc _ _).trans hw); have O1 := hide (Rs.mk hs ((unhide HO).ext (unhide X1)) (by omega)); clear hw hs)
      | (go_at_call 22; refine Calls.mono (unhide HX gg _ (unhide O1)) ?_; rintro e w2 ⟨v, rfl, hrep, hs, hw⟩; have S2 := hide hs; have RP := hide hrep; have X2 := hide ((unhide X1).gr hw (by omega)); rw [RepN] at hrep; obtain ⟨la, lc, rfl, _, _⟩ := hrep; have RN2 := hw.row (unhide RN1) (by omega); have r0 := rowC RN2 0 rfl; have r1 := rowC RN2 1 rfl; have r2 := rowC RN2 2 rfl; have r3 := rowC RN2 3 rfl; have r4 := rowC RN2 4 rfl; have rf := rowF RN2; have S3 := hide (hs.apart RN2 (by omega)); have RN3 := hide RN2; clear hw hs RN2)
      | (go_at_call 23; refine Calls.mono (unhide HFi gg _ (unhide S3 _ (fun b hb => set5_other w2 _ b k o ss nn _ hb))) ?_; rintro e w3 ⟨rfl, hs, hw⟩; have c3 : w3.cell? ⟨gg, 3, none⟩ = some (.int .i64 pl) := (by obtain ⟨T, h1, _⟩ := hs.ex; exact rowC h1 3 rfl); have c4 : w3.cell? ⟨gg, 4, none⟩ = some (.int .i64 0) := (by obtain ⟨T, h1, _⟩ := hs.ex; exact rowC h1 4 rfl); have X3 := hide hw; clear r0 r1 r2 r3 r4 rf; have RN4 := hw.row (set5_row (unhide RN3) k o ss nn _) (by omega); have z0 := rowC RN4 0 rfl; have z1 := rowC RN4 1 rfl; have z2 := rowC RN4 2 rfl; have z3 := rowC RN4 3 rfl; have z4 := rowC RN4 4 rfl; have zf := rowF RN4; have E3 := hide ((set5_ext (unhide X2) w.heap.size (Nat.le_refl _) k o ss nn _).gr hw (by omega)); have RN5 := hide RN4; clear hw hs RN4))
    have hb1 : gg < w1.heap.size := (unhide O1).st.lt
    have hRep : Hd (RepN (set5 w3 w.heap.size k o ss nn (.slice la l.length lc)) (Fr w.heap.size (set5 w3 w.heap.size k o ss nn (.slice la l.length lc)).heap.size) ⟨k, o, ss, nn, l⟩ (nodV k o ss nn (.slice la l.length lc))) := by
      have hx := (unhide X3)
      have hz := hx.size
      rw [set5_size] at hz
      have hz1 := (unhide X1).size
      rw [set5_size]
      refine RepN.to (fun b hb => ⟨⟨by have := hb.1; omega, Nat.lt_of_lt_of_le hb.2 hz⟩, ?_⟩) _ _ (unhide RP)
      have h1 := hb.1
      have h2 := hb.2
      have hN : b ≠ w.heap.size := by have := (unhide RN1); have := (Array.getElem?_eq_some_iff.1 this).1; omega
      rw [set5_block hN, hx.block b (by rw [set5_size]; exact h2) (by omega), set5_block hN]
    have hE : Hd (Ext w (set5 w3 w.heap.size k o ss nn (.slice la l.length lc))) := set5_ext (unhide E3) w.heap.size (Nat.le_refl _) k o ss nn _
    have hRow := set5_row (unhide RN5) k o ss nn (.slice la l.length lc)
    have q0 := rowC hRow 0 rfl
    have q1 := rowC hRow 1 rfl
    have q2 := rowC hRow 2 rfl
    have q3 := rowC hRow 3 rfl
    have q4 := rowC hRow 4 rfl
    clear hRow z0 z1 z2 z3 z4
    exact bodyPost_ret (v := .tuple #[nodV k o ss nn (.slice la l.length lc), .int .i64 0, .int .i64 0]) (by simp [results, Tryz.results9, go_sem, q0, q1, q2, q3, q4]) rfl ⟨unhide hE, Or.inr ⟨rfl, _, rfl, unhide hRep⟩⟩
  · have h1 : (er == 0) = false := by simpa using h0
    have h2 : (er != 0) = true := by simp [h0]
    have H0 := hide h0
    clear h0
    go_enter Tryz.func9, Tryz.ntmps9
    go_wp2_with (first
      | (go_at_call 21; refine Calls.mono (unhide HBg _ (Ext.alloc _ _)) ?_; rintro e w1 ⟨gg, rfl, hgg, hs, hw⟩; have hgg : w.heap.size + 1 ≤ gg := (by rw [size_alloc] at hgg; exact hgg); have RN1 := hide (hw.row (Go.heap_alloc_new w _)); have X1 := hide ((Ext.alloc _ _).trans hw); have O1 := hide (Rs.mk hs ((unhide HO).ext (unhide X1)) (by omega)); clear hw hs)
      | (go_at_call 22; refine Calls.mono (unhide HX gg _ (unhide O1)) ?_; rintro e w2 ⟨v, rfl, hrep, hs, hw⟩; have S2 := hide hs; have RP := hide hrep; have X2 := hide ((unhide X1).gr hw (by omega)); rw [RepN] at hrep; obtain ⟨la, lc, rfl, _, _⟩ := hrep; have RN2 := hw.row (unhide RN1) (by omega); have r0 := rowC RN2 0 rfl; have r1 := rowC RN2 1 rfl; have r2 := rowC RN2 2 rfl; have r3 := rowC RN2 3 rfl; have r4 := rowC RN2 4 rfl; have rf := rowF RN2; have S3 := hide (hs.apart RN2 (by omega)); have RN3 := hide RN2; clear hw hs RN2)
      | (go_at_call 23; refine Calls.mono (unhide HFi gg _ (unhide S3 _ (fun b hb => set5_other w2 _ b k o ss nn _ hb))) ?_; rintro e w3 ⟨rfl, hs, hw⟩; have c3 : w3.cell? ⟨gg, 3, none⟩ = some (.int .i64 pl) := (by obtain ⟨T, h1, _⟩ := hs.ex; exact rowC h1 3 rfl); have c4 : w3.cell? ⟨gg, 4, none⟩ = some (.int .i64 er) := (by obtain ⟨T, h1, _⟩ := hs.ex; exact rowC h1 4 rfl); have X3 := hide hw; clear r0 r1 r2 r3 r4 rf; have RN4 := hw.row (set5_row (unhide RN3) k o ss nn _) (by omega); have z0 := rowC RN4 0 rfl; have z1 := rowC RN4 1 rfl; have z2 := rowC RN4 2 rfl; have z3 := rowC RN4 3 rfl; have z4 := rowC RN4 4 rfl; have zf := rowF RN4; have E3 := hide ((set5_ext (unhide X2) w.heap.size (Nat.le_refl _) k o ss nn _).gr hw (by omega)); have RN5 := hide RN4; clear hw hs RN4))
    go_region
    have hRow := set5_row (unhide RN5) 0 0 ⟨#[]⟩ 0 (.slice none 0 0)
    have hE : Hd (Ext w (set5 w3 w.heap.size 0 0 ⟨#[]⟩ 0 (.slice none 0 0))) := set5_ext (unhide E3) w.heap.size (Nat.le_refl _) 0 0 ⟨#[]⟩ 0 _
    have q0 := rowC hRow 0 rfl
    have q1 := rowC hRow 1 rfl
    have q2 := rowC hRow 2 rfl
    have q3 := rowC hRow 3 rfl
    have q4 := rowC hRow 4 rfl
    clear hRow z0 z1 z2 z3 z4
    go_wp2_with fail
    exact bodyPost_ret (v := .tuple #[nodV 0 0 ⟨#[]⟩ 0 (.slice none 0 0), .int .i64 pl, .int .i64 er]) (by simp [results, Tryz.results9, go_sem, q0, q1, q2, q3, q4]) rfl ⟨(unhide hE).drew, Or.inl ⟨unhide H0, rfl⟩⟩

end Go.Proofs.YtbcflcnkhhkogaaGreatDoor
