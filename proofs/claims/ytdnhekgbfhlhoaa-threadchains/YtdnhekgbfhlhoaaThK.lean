/- Final; what the law holds awake. -/
import Derived.Test.YtdnhekgbfhlhoaaThC
set_option linter.unusedSimpArgs false
set_option linter.unusedVariables false
set_option maxRecDepth 10000
namespace Go.Proofs.Ytdnhekgbfhlhoaa
open Go.RowKit

set_option maxHeartbeats 2000000 in
theorem thFinal_w (nm : ByteArray) (ps rg : Int) (a : Option Addr) (c : Nat) (l : List RB) (ads : List (Option Addr × Nat)) (F : Nat → Nat) (z : Int) (w : World) (hn : l.length ≤ 1000000) (hF : Fwd l F) (hr : RepB w (In w) a l ads) :
    Calls Try.prog 13 #[rfV nm ps rg a l.length c, .int .i64 z] w fun e w' => e = .returned (.int .i64 (fz l.length F z)) ∧ Ext w w' := by
  have HNt := hide (fun W => newTrails_w a l.length c W hn)
  have HFn := hide (fun (W : World) (B N : Nat) (fin : List Int) (x : RepB W (fun q => q < W.heap.size ∧ q ≠ N) a l ads) (t : TrS W B N a c l.length fin) (i : FinI F [] fin) => final_w B N a c l ads F fin z W hn hF x t i)
  have HR := hide hr
  have HI0 : Hd (FinI F [] (List.replicate l.length (-2))) := fun i x hx => by
    obtain rfl := List.eq_of_mem_replicate (List.mem_of_getElem? hx)
    exact Or.inl rfl
  clear hr hF
  generalize l.length = n at *
  go_enter Try.func13, Try.ntmps13
  go_wp2_with (first
    | (go_at_call 18; refine Calls.mono (unhide HNt _) ?_; rintro e w1 ⟨B, N, rfl, hB, hN, t1, x1⟩; have T1 := hide t1; have X1 := hide x1; have HNn := hide hN; clear t1 x1 hB hN)
    | (go_at_call 28; refine Calls.mono (unhide HFn w1 B N _ ((unhide HR).to fun q hq => ⟨⟨Nat.lt_of_lt_of_le hq ((Ext.alloc _ _).trans (unhide X1)).size, fun e => by have h1 := unhide HNn; rw [sz1] at h1; have h3 : q < w.heap.size := hq; omega⟩, ((Ext.alloc _ _).trans (unhide X1)).block q hq⟩) (unhide T1) (unhide HI0)) ?_; rintro e w2 ⟨rfl, _, g2⟩; have G2 := hide g2; clear g2))
  go_ret
  exact ⟨rfl, ext_gb (gb_new (gb_ext ((Ext.alloc _ _).trans (unhide X1)) none) (unhide G2) (Nat.le_trans (Ext.alloc _ _).size (unhide HNn)))⟩

theorem aw3_cells : bC aw3 [(none, 0), (none, 0), (none, 0)] = [.slice none 0 0, .int .i64 1, .int .i64 0, .int .i64 1, .int .i64 0, .slice none 0 0, .int .i64 1, .int .i64 0, .int .i64 2, .int .i64 0, .slice none 0 0, .int .i64 3, .int .i64 0, .int .i64 0, .int .i64 0] := rfl
theorem aw3_rep (W w : World) (b : Nat) (h : Row W b 37 [.slice none 0 0, .int .i64 1, .int .i64 0, .int .i64 1, .int .i64 0, .slice none 0 0, .int .i64 1, .int .i64 0, .int .i64 2, .int .i64 0, .slice none 0 0, .int .i64 3, .int .i64 0, .int .i64 0, .int .i64 0]) : RepB W (In W) (some ⟨b, 0, none⟩) aw3 [(none, 0), (none, 0), (none, 0)] := by
  refine ⟨rfl, Or.inr ⟨b, 0, rfl, k_lt h, fun j v hj => ?_⟩, fun i bb d h1 h2 => ?_⟩
  · rw [aw3_cells] at hj
    rw [Nat.zero_add]
    exact h.cell j hj
  · have hi := (List.getElem?_eq_some_iff.1 h1).1
    simp [aw3] at hi
    rcases (show i = 0 ∨ i = 1 ∨ i = 2 by omega) with rfl | rfl | rfl
    all_goals
      simp [aw3] at h1
      simp at h2
      subst h1 h2
      exact Or.inl ⟨rfl, rfl⟩

set_option maxHeartbeats 4000000 in
theorem awake16_w (w : World) : Calls Try.prog 7 #[] w fun e w' => e = .returned (.bool true) ∧ Ext w w' := by
  have HRun := hide (fun (a : Option Addr) (c : Nat) (ads : List (Option Addr × Nat)) (W : World) (hr : RepB W (In W) a aw3 ads) => run_l1 ⟨#[]⟩ 0 1 a c 0 1 aw3 ads W rfl (by omega) (Or.inl rfl) (fun i b hb => by have := (List.getElem?_eq_some_iff.1 hb).1; simp [aw3] at this; rcases (show i = 0 ∨ i = 1 ∨ i = 2 by omega) with rfl | rfl | rfl <;> (simp [aw3] at hb; subst hb; simp)) hr aw3_fwd aw3_turn)
  have HFin := hide (fun (a : Option Addr) (c : Nat) (ads : List (Option Addr × Nat)) (W : World) (hr : RepB W (In W) a aw3 ads) => thFinal_w ⟨#[]⟩ 0 1 a c aw3 ads (Fc 0 1) 0 W (by decide) aw3_fwd hr)
  have ef : fz aw3.length (Fc 0 1) 0 = 2 := rfl
  rw [ef] at HFin
  have el : aw3.length = 3 := rfl
  rw [el] at HFin
  have HRep := hide aw3_rep
  clear ef el
  have HRow0 : Hd (∀ o W, Ext ((w.alloc (.cells #[.slice none 0 0, .int .i64 1, .int .i64 0, .int .i64 1, .int .i64 0, .slice none 0 0, .int .i64 1, .int .i64 0, .int .i64 2, .int .i64 0, .slice none 0 0, .int .i64 3, .int .i64 0, .int .i64 0, .int .i64 0] 37)).alloc o) W → RepB W (In W) (some ⟨w.heap.size, 0, none⟩) aw3 [(none, 0), (none, 0), (none, 0)]) := fun o W x => unhide HRep W w w.heap.size (((Row.new w [.slice none 0 0, .int .i64 1, .int .i64 0, .int .i64 1, .int .i64 0, .slice none 0 0, .int .i64 1, .int .i64 0, .int .i64 2, .int .i64 0, .slice none 0 0, .int .i64 3, .int .i64 0, .int .i64 0, .int .i64 0] 37).on (Ext.alloc _ o)).on x)
  have HBox : Hd (∀ o W, Ext ((w.alloc o).alloc (.cells #[.string ⟨#[]⟩, .int .i64 0, .int .i64 1, .slice (some ⟨w.heap.size, 0, none⟩) 3 3] 24)) W → Row W (w.heap.size + 1) 24 [.string ⟨#[]⟩, .int .i64 0, .int .i64 1, .slice (some ⟨w.heap.size, 0, none⟩) 3 3]) := fun o W x => by
    have := (Row.new (w.alloc o) [.string ⟨#[]⟩, .int .i64 0, .int .i64 1, .slice (some ⟨w.heap.size, 0, none⟩) 3 3] 24).on x
    rw [sz1] at this
    exact this
  go_enter Try.func7, Try.ntmps7
  go_wp2_with (first
    | (go_at_call 5; refine Calls.mono (unhide HRun _ _ _ _ (unhide HRow0 _ _ (Ext.refl _))) ?_; rintro e w1 ⟨g, cap, ads2, rfl, r1, x1⟩; have R1 := hide r1; have X1 := hide x1; have bx := (fun ob => unhide HBox _ _ (x1.trans (Ext.alloc w1 ob))); have b0 := (fun ob => (bx ob).cell 0 rfl); have b1 := (fun ob => (bx ob).cell 1 rfl); have b2 := (fun ob => (bx ob).cell 2 rfl); have b3 := (fun ob => (bx ob).cell 3 rfl); clear r1 x1 bx)
    | (go_at_call 13; refine Calls.mono (unhide HFin _ _ _ _ (unhide HRow0 _ _ ((unhide X1).trans (Ext.alloc w1 _)))) ?_; rintro e w3 ⟨rfl, x3⟩; have X3 := hide x3; have c3 : w3.cell? ⟨w1.heap.size, 3, none⟩ = some (.slice (some ⟨g, 0, none⟩) 1 cap) := x3.cell (cell_box w1 _ _ 3 rfl); obtain ⟨g2, o2, d2, eg, _, _, k0, k1, _⟩ := ((unhide R1).ext ((Ext.alloc w1 _).trans x3)).at (i := 0) rfl; injection eg with eg; injection eg with eg1 eg2; subst eg1 eg2; have k1 : w3.cell? ⟨g, 1, none⟩ = some (.int .i64 3) := k1; clear x3 k0))
  go_ret
  exact ⟨retB (by first | rfl | simp | decide), (((ext2 _ _).trans (unhide X1)).trans (Ext.alloc _ _)).trans (unhide X3)⟩

end Go.Proofs.Ytdnhekgbfhlhoaa
