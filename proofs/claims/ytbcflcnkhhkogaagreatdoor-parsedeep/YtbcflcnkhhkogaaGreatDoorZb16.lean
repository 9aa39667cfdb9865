/- Expressions: all who read them, tied together. -/
import Derived.Test.YtbcflcnkhhkogaaGreatDoorZb9
import Derived.Test.YtbcflcnkhhkogaaGreatDoorZb10
import Derived.Test.YtbcflcnkhhkogaaGreatDoorZb11
import Derived.Test.YtbcflcnkhhkogaaGreatDoorZb12
import Derived.Test.YtbcflcnkhhkogaaGreatDoorZb13
import Derived.Test.YtbcflcnkhhkogaaGreatDoorZb14
import Derived.Test.YtbcflcnkhhkogaaGreatDoorZb15
set_option linter.unusedSimpArgs false
set_option linter.unusedVariables false
set_option maxRecDepth 10000

namespace Go.Proofs.YtbcflcnkhhkogaaGreatDoor
open Go.RowKit

/-- A function of the reader's reads as r says, from wherever fewer than f words are left. -/
abbrev RdIs (g len : Nat) (fid : FuncId) (r : Rdr) (f : Nat) : Prop := ∀ (st : PS) (W : World), st.ts.length < f → Rs W g len st → Calls Tryz.prog fid #[.pointer (some ⟨g, 0, none⟩)] W (Tree g len W (r st))

theorem RdIs.ex {g len : Nat} {fid : FuncId} {r : Rdr} {f : Nat} (h : RdIs g len fid r f) (st : PS) (w : World) (hl : st.ts.length < f) : ExIs g len fid r st w := fun W _ hR => h st W hl hR

theorem enter_next_lt {st : PS} (len : Nat) (h : st.ts ≠ []) : (st.enter len).next.ts.length < st.ts.length := by
  have h1 := enter_le st len
  have h4 : (st.enter len).next.ts.length = (st.enter len).ts.length - 1 := by simp [PS.next]
  have := List.length_pos_iff.2 h
  omega
theorem enter_sign_lt {st : PS} (len : Nat) (s : ByteArray) (h : st.ts ≠ []) : ((st.enter len).sign len s).ts.length < st.ts.length := by
  have h0 := List.length_pos_iff.2 h
  have h1 := psign_le (st.enter len) len s
  by_cases e : (st.enter len).ts = []
  · rw [e] at h1; simp at h1; rw [h1]; exact h0
  · exact Nat.lt_of_lt_of_le (psign_lt len s e) (enter_le st len)
theorem enter_name_lt {st : PS} (len : Nat) (h : st.ts ≠ []) : ((st.enter len).name len).2.ts.length < st.ts.length := by
  have h0 := List.length_pos_iff.2 h
  have h1 := name_le (st.enter len) len
  by_cases e : (st.enter len).ts = []
  · rw [e] at h1; simp at h1; rw [h1]; exact h0
  · exact Nat.lt_of_lt_of_le (name_lt len e) (enter_le st len)

theorem brIs {g len f : Nat} {ex : Rdr} (h : RdIs g len 22 ex f) (c : ByteArray) (st : PS) (W : World) (hne : st.ts ≠ []) (hl : st.ts.length < f + 1) (hR : Rs W g len st) :
    Calls Tryz.prog 191 #[.pointer (some ⟨g, 0, none⟩), .string c] W (Tree g len W (inBrP len ex c st)) :=
  inBr_any len g ex st c W hR (h.ex _ _ (by have := enter_next_lt len hne; omega))

theorem sglIs {g len f : Nat} {ex : Rdr} (hf : f < 100000) (hsh : Shorter ex) (h : RdIs g len 22 ex f) : RdIs g len 190 (sglP len ex (f + 1)) (f + 1) := by
  intro st W hl hR
  refine sgl_any len g ex (f + 1) st W hR (fun hb W' _ hR' => brIs h _ st W' (isS_ne hb) hl hR') (fun hb W' _ hR' => ?_) (fun hb W' _ hR' => ?_)
  · have h1 := enter_sign_lt len ⟨#[91]⟩ (isS_ne hb)
    exact list_any len g ex (f + 1) st W' hR' (fun W2 _ hR2 => ops_any len g ex (f + 1) ⟨#[93]⟩ _ W2 hR2 (by omega) (by omega) hsh (fun s hs => h.ex s _ (by omega)))
  · have h1 := enter_name_lt len (isCall_ne hb)
    have h2 := psign_le ((st.enter len).name len).2 len ⟨#[40]⟩
    exact call_any len g ex (f + 1) st W' hR' (fun W2 _ hR2 => ops_any len g ex (f + 1) ⟨#[41]⟩ _ W2 hR2 (by omega) (by omega) hsh (fun s hs => h.ex s _ (by omega)))

theorem idxIs {g len f : Nat} {ex : Rdr} (hf : f < 100000) (hsh : Shorter ex) (h : RdIs g len 22 ex f) : RdIs g len 179 (idxP len ex (f + 1)) (f + 1) := fun st W hl hR =>
  idx_any len g ex (f + 1) st W hR hl hsh (fun W' _ hR' => sglIs hf hsh h st W' hl hR') (sgl_le hsh _ st) (fun s hs hne W' _ hR' => brIs h _ s W' hne (by omega) hR')

theorem sgnIs {g len f : Nat} {sg ex : Rdr} (hf : f < 100000) (hsh : Shorter ex) (hs : RdIs g len 163 sg f) (h : RdIs g len 22 ex f) : RdIs g len 163 (sgnP len sg ex (f + 1)) (f + 1) := fun st W hl hR =>
  sgn_any len g sg ex (f + 1) st W hR (fun _ W' _ hR' => idxIs hf hsh h st W' hl hR') (fun hb => hs.ex _ _ (by have := enter_next_lt len (oper_some_ne hb); omega))

theorem levels {g len f : Nat} {sg : Rdr} (hsh : Shorter sg) (h : RdIs g len 163 sg f) : RdIs g len 22 (orP sg f) f := by
  have h5 : RdIs g len 142 (prdP sg f) f := fun st W hl hR => lev5_any len g sg f st W hR hl hsh (fun s hs => h.ex s W (by omega))
  have h4 : RdIs g len 116 (sumP sg f) f := fun st W hl hR => lev4_any len g (prdP sg f) f st W hR hl (prd_le hsh f) (fun s hs => h5.ex s W (by omega))
  have h3 : RdIs g len 83 (cmpP (sumP sg f)) f := fun st W hl hR => cmp_any len g (sumP sg f) st W hR (sum_le hsh f) (fun s hs => h4.ex s W (by omega))
  have h2 : RdIs g len 40 (botP sg f) f := fun st W hl hR => lev2_any len g (cmpP (sumP sg f)) f st W hR hl (cmp_le (sum_le hsh f)) (fun s hs => h3.ex s W (by omega))
  exact fun st W hl hR => lev1_any len g (botP sg f) f st W hR hl (bot_le hsh f) (fun s hs => h2.ex s W (by omega))

theorem both_one (len f : Nat) : (bothP len (f + 1)).1 = sgnP len (bothP len f).1 (bothP len f).2 (f + 1) := by rw [bothP]
theorem both_two (len f : Nat) : (bothP len (f + 1)).2 = orP (sgnP len (bothP len f).1 (bothP len f).2 (f + 1)) (f + 1) := by rw [bothP]

theorem ex_all (g len B : Nat) (hB : B = 100000) (f : Nat) : f ≤ B → RdIs g len 163 (bothP len f).1 f ∧ RdIs g len 22 (bothP len f).2 f := by
  induction f with
  | zero => exact fun _ => ⟨fun st W hl _ => absurd hl (Nat.not_lt_zero _), fun st W hl _ => absurd hl (Nat.not_lt_zero _)⟩
  | succ f ih =>
    intro hf
    obtain ⟨h1, h2⟩ := ih (by omega)
    obtain ⟨s1, s2⟩ := both_le len f
    have hs := sgnIs (by omega) s2 h1 h2
    have he := levels (sg := sgnP len (bothP len f).1 (bothP len f).2 (f + 1)) (sgn_le s1 s2 _) hs
    rw [both_one, both_two]
    exact ⟨hs, he⟩

/-- An expression is read as exP says. -/
theorem exIs (g len f : Nat) (hf : f ≤ 100000) : RdIs g len 22 (exP len f) f := by
  have h := (ex_all g len 100000 rfl f hf).2
  unfold exP
  exact h

end Go.Proofs.YtbcflcnkhhkogaaGreatDoor
