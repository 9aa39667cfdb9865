/- The lists of what is read are bounded: statements, blocks, functions. · A text that is too long, however long it is: parse.Expr refuses it. · The document's Program and parse.Program at any text; two programs that are one. · What the document fixes of layer 5. -/
import Derived.Test.YtgkiihjakbnhcaaGreatDoorZc49
import Derived.Test.YtgkiihjakbnhcaaGreatDoorZc40
import Derived.Test.YtgkiihjakbnhcaaGreatDoorZc45
set_option linter.unusedSimpArgs false
set_option linter.unusedVariables false
set_option maxRecDepth 10000

namespace Go.Proofs.YtgkiihjakbnhcaaGreatDoor
open Go.RowKit

theorem BL.three {a b c : PN} (k o : Int) (s : ByteArray) (n : Int) (h : BL a) (h2 : BL b) (h3 : BL c) : BL ⟨k, o, s, n, [a, b, c]⟩ := BL.mk _ _ _ _ _ (by simp) (fun x hx => by simp at hx; rcases hx with rfl | rfl | rfl; exact h; exact h2; exact h3)
theorem ex_bl (len f : Nat) : BR (exP len f) := (both_bl len f).2
theorem ofEx_bl {len : Nat} {ex : Rdr} (h : BR ex) (k : Int) : BR (ofExP len ex k) := fun st hl => BL.one _ _ _ _ (h st hl)
theorem plain_bl (len : Nat) (k : Int) : BR (plainP len k) := fun st _ => BL.leaf _ _ _ _
theorem answer_bl {len : Nat} {ex : Rdr} (h : BR ex) : BR (answerP len ex) := by
  intro st hl
  unfold answerP
  split
  · exact plain_bl len 7 st hl
  · exact ofEx_bl h 7 st hl
theorem named_bl {len : Nat} {ex : Rdr} (h : BR ex) (k : Int) : BR (namedP len ex k) := by
  intro st hl
  have h1 := name_le st len
  have h2 := psign_le (st.name len).2 len ⟨#[61]⟩
  exact BL.one _ _ _ _ (h _ (by omega))
theorem blkLoop_bl {len : Nat} {ex bl ch : Rdr} (he : Shorter ex) (hb : Shorter bl) (hc : Shorter ch) (h : BR (stmP len ex bl ch)) : ∀ (f : Nat) (acc : List PN) (st : PS), (∀ x ∈ acc, BL x) → acc.length + st.ts.length ≤ 100001 → st.ts.length ≤ 99999 → (∀ x ∈ (blkLoop (stmP len ex bl ch) f acc st).1, BL x) ∧ (blkLoop (stmP len ex bl ch) f acc st).1.length ≤ 100001
  | 0, acc, st, ha, hn, _ => ⟨ha, by show acc.length ≤ _; omega⟩
  | f + 1, acc, st, ha, hn, hl => by
    rw [blkLoop]
    split
    · exact ⟨ha, by show acc.length ≤ _; omega⟩
    · rename_i hs
      have hne : st.ts ≠ [] := fun e => by
        unfold PS.stop at hs
        rw [e] at hs
        exact hs rfl
      have hlt := stm_lt (len := len) he hb hc hne
      refine blkLoop_bl he hb hc h f _ _ (fun x hx => ?_) ?_ (by omega)
      · rcases List.mem_append.1 hx with hx | hx
        · exact ha x hx
        · simp at hx; subst hx; exact h st hl
      · simp; omega
theorem blk_bl {len : Nat} {ex bl ch : Rdr} (he : Shorter ex) (hb : Shorter bl) (hc : Shorter ch) (h : BR (stmP len ex bl ch)) (f : Nat) : BR (blkP len (stmP len ex bl ch) f) := by
  intro st hl
  have h1 := enter_le st len
  have h2 := next_le (st.enter len)
  unfold blkP
  split
  · obtain ⟨a, b⟩ := blkLoop_bl he hb hc h f [] (st.enter len).next (fun x hx => by cases hx) (by simp; omega) (by omega)
    exact BL.mk _ _ _ _ _ (by omega) a
  · exact BL.leaf _ _ _ _
theorem cho_bl {ex bl ot : Rdr} (he : Shorter ex) (hb : Shorter bl) (h : BR ex) (h2 : BR bl) (h3 : BR ot) : BR (choP ex bl ot) := by
  intro st hl
  have l1 := he st
  have l2 := hb (ex st).2
  have l3 := next_le (bl (ex st).2).2
  unfold choP
  split
  · exact BL.three _ _ _ _ (h st hl) (h2 _ (by omega)) (h3 _ (by omega))
  · exact BL.two _ _ _ _ (h st hl) (h2 _ (by omega))
theorem oth_bl {ch bl : Rdr} (h : BR ch) (hb : BR bl) : BR (othP ch bl) := by
  intro st hl
  have l3 := next_le st
  unfold othP
  split
  · exact BL.one _ _ _ _ (h _ (by omega))
  · exact hb st hl
theorem stm_bl {len : Nat} {ex bl ch : Rdr} (he : Shorter ex) (h : BR ex) (hb : BR bl) (hc : BR ch) : BR (stmP len ex bl ch) := by
  intro st hl
  have l := next_le st
  have m : st.next.ts.length ≤ 99999 := by omega
  have l2 := he st.next
  unfold stmP
  split
  · exact named_bl h 1 _ m
  split
  · exact named_bl h 2 _ hl
  split
  · exact hc _ m
  split
  · exact BL.two _ _ _ _ (h _ m) (hb _ (by omega))
  split
  · exact plain_bl len 5 _ m
  split
  · exact plain_bl len 6 _ m
  split
  · exact answer_bl h _ m
  split
  · exact ofEx_bl h 8 _ m
  · exact ofEx_bl h 9 _ hl
theorem sts_bl (len fe : Nat) (f : Nat) : BR (stsP len fe f).1 ∧ BR (stsP len fe f).2.1 ∧ BR (stsP len fe f).2.2 := by
  induction f with
  | zero => exact ⟨fun _ _ => BL.leaf _ _ _ _, fun _ _ => BL.leaf _ _ _ _, fun _ _ => BL.leaf _ _ _ _⟩
  | succ f ih =>
    obtain ⟨h1, h2, h3⟩ := ih
    obtain ⟨l1, l2, l3⟩ := sts_le len fe f
    have hx := ex_bl len fe
    have lx := ex_le len fe
    have hb : BR (blkP len (stsP len fe f).1 (f + 1)) := by
      cases f with
      | zero =>
        intro st hl
        have e : (stsP len fe 0).1 = fun st => (nodeZ, st) := rfl
        unfold blkP
        split
        · have : (blkLoop (stsP len fe 0).1 (0 + 1) [] (st.enter len).next).1.length ≤ 1 ∧ ∀ x ∈ (blkLoop (stsP len fe 0).1 (0 + 1) [] (st.enter len).next).1, BL x := by
            rw [e, blkLoop]
            split
            · exact ⟨by simp, fun x hx => by cases hx⟩
            · rw [blkLoop]
              exact ⟨by simp, fun x hx => by simp at hx; subst hx; exact BL.leaf _ _ _ _⟩
          exact BL.mk _ _ _ _ _ (by omega) this.2
        · exact BL.leaf _ _ _ _
      | succ f =>
        obtain ⟨k1, k2, k3⟩ := sts_le len fe f
        have e : (stsP len fe (f + 1)).1 = stmP len (exP len fe) (stsP len fe f).2.1 (stsP len fe f).2.2 := by rw [stsP]
        rw [e] at h1 ⊢
        exact blk_bl lx k2 k3 h1 (f + 1 + 1)
    have e1 : (stsP len fe (f + 1)).1 = stmP len (exP len fe) (stsP len fe f).2.1 (stsP len fe f).2.2 := by rw [stsP]
    have e2 : (stsP len fe (f + 1)).2.1 = blkP len (stsP len fe f).1 (f + 1) := by rw [stsP]
    have e3 : (stsP len fe (f + 1)).2.2 = choP (exP len fe) (blkP len (stsP len fe f).1 (f + 1)) (othP (stsP len fe f).2.2 (stsP len fe f).2.1) := by rw [stsP]
    rw [e1, e2, e3]
    exact ⟨stm_bl lx hx h2 h3, hb, cho_bl lx (blk_le l1 _) hx hb (oth_bl h3 h2)⟩

end Go.Proofs.YtgkiihjakbnhcaaGreatDoor

namespace Go.Proofs.YtgkiihjakbnhcaaGreatDoor
open Go.RowKit

theorem ltokens_long (s : ByteArray) (w : World) (hs : 4000 < s.size) (hmax : s.size ≤ 9223372036854775807) :
    Calls Tryz.prog 16 #[.string s] w fun e w' => e = .returned (.tuple #[.slice none 0 0, .int .i64 0, .int .i64 2]) ∧ Ext w w' := by
  go_enter Tryz.func16, Tryz.ntmps16
  go_wp2
  go_step3
  go_wp2
  try rw [Exit.noGoto_ret]
  go_ret3
  exact ⟨rfl, Ext.refl _⟩
theorem toks_beg_long (s : ByteArray) (w : World) (hl : 4000 < s.size) (hmax : s.size ≤ 9223372036854775807) :
    Calls Tryz.prog 16 #[.string s] w fun e w' => ∃ a n cap, e = .returned (.tuple #[.slice a n cap, .int .i64 (begP s).pl, .int .i64 (begP s).e]) ∧ (begP s).op = 0 ∧ (∀ ob, Sl (w'.alloc ob) w'.heap.size (.slice a n cap) (begP s).ts) ∧ Ext w w' := by
  refine (ltokens_long s w hl hmax).mono ?_
  rintro e w1 ⟨rfl, hx⟩
  rw [begP_long hl]
  exact ⟨none, 0, 0, rfl, rfl, fun _ => slNil _ _, hx⟩

set_option maxHeartbeats 1000000 in
theorem pbegin_long (s : ByteArray) (w : World) (hl : 4000 < s.size) (hmax : s.size ≤ 9223372036854775807) :
    Calls Tryz.prog 8 #[.string s] w fun e w' => ∃ g, e = .returned (.pointer (some ⟨g, 0, none⟩)) ∧ w.heap.size ≤ g ∧ St w' g s.size (begP s) ∧ Ext w w' := by
  have HT := hide (toks_beg_long s w hl hmax)
  generalize begP s = st at *
  obtain ⟨ts, op, pl, er⟩ := st
  go_enter Tryz.func8, Tryz.ntmps8
  go_wp2_with (go_at_call 16; refine Calls.mono (unhide HT) ?_; rintro e w1 ⟨a, n, cap, rfl, hop, hs, hx⟩; have HO := hide hop; have HS := hide hs; have X := hide hx; clear hop hs hx)
  go_ret
  have hop : op = 0 := unhide HO
  subst hop
  exact ⟨_, rfl, (unhide X).le, ⟨⟨_, Go.heap_alloc_new w1 _, unhide HS _⟩⟩, (unhide X).trans (Ext.alloc _ _)⟩

set_option maxHeartbeats 1000000 in
theorem exprT_of (s : ByteArray) (f : Nat) (w : World) (he : Er w) (hO : Opx w) (hBg : ∀ W, Ext w W → Calls Tryz.prog 8 #[.string s] W fun e w' => ∃ g, e = .returned (.pointer (some ⟨g, 0, none⟩)) ∧ W.heap.size ≤ g ∧ St w' g s.size (begP s) ∧ Ext W w') (hf : (begP s).ts.length < f) (hf2 : f ≤ 100000) :
    Calls Tryz.prog 14 #[.string s] w (ExprOf (xrP s f) w) := by
  have HBg := hide (fun (W : World) (x : Ext w W) => hBg W x)
  clear hBg
  have HX := hide (fun gg W (x : Rs W gg s.size (begP s)) => exIs gg s.size f hf2 (begP s) W hf x)
  have HFi := hide (fun gg W (x : St W gg s.size (exP s.size f (begP s)).2) => finish_any s.size gg _ W x)
  have hp := opx_lt hO
  have HO := hide hO
  obtain ⟨fq, hfq⟩ : ∃ fq, fq = finP s.size (exP s.size f (begP s)).2 := ⟨_, rfl⟩
  have hq : xrP s f = ((exP s.size f (begP s)).1, fq) := by rw [hfq]; rfl
  rw [hq]
  rw [← hfq] at HFi
  clear hfq hq he hO hf
  generalize exP s.size f (begP s) = q at *
  generalize begP s = st0 at *
  obtain ⟨⟨k, o, ss, nn, l⟩, st1⟩ := q
  obtain ⟨ts, op, pl, er⟩ := fq
  by_cases h0 : er = 0
  · subst h0
    go_enter Tryz.func14, Tryz.ntmps14
    go_wp2_with (first
      | (go_at_call 8; refine Calls.mono (unhide HBg _ (Ext.alloc _ _)) ?_; rintro e w1 ⟨gg, rfl, hgg, hs, hw⟩; have hgg : w.heap.size + 1 ≤ gg := (by rw [size_alloc] at hgg; exact hgg); have RN1 := hide (hw.row (Go.heap_alloc_new w _)); have X1 := hide ((Ext.alloc _ _).trans hw); have O1 := hide (Rs.mk hs ((unhide HO).ext (unhide X1)) (by omega)); clear hw hs)
      | (go_at_call 31; refine Calls.mono (unhide HX gg _ (unhide O1)) ?_; rintro e w2 ⟨v, rfl, hrep, hs, hw⟩; have S2 := hide hs; have RP := hide hrep; have X2 := hide ((unhide X1).gr hw (by omega)); rw [RepN] at hrep; obtain ⟨la, lc, rfl, _, _⟩ := hrep; have RN2 := hw.row (unhide RN1) (by omega); have r0 := rowC RN2 0 rfl; have r1 := rowC RN2 1 rfl; have r2 := rowC RN2 2 rfl; have r3 := rowC RN2 3 rfl; have r4 := rowC RN2 4 rfl; have rf := rowF RN2; have S3 := hide (hs.apart RN2 (by omega)); have RN3 := hide RN2; clear hw hs RN2)
      | (go_at_call 32; refine Calls.mono (unhide HFi gg _ (unhide S3 _ (fun b hb => set5_other w2 _ b k o ss nn _ hb))) ?_; rintro e w3 ⟨rfl, hs, hw⟩; have c3 : w3.cell? ⟨gg, 3, none⟩ = some (.int .i64 pl) := (by obtain ⟨T, h1, _⟩ := hs.ex; exact rowC h1 3 rfl); have c4 : w3.cell? ⟨gg, 4, none⟩ = some (.int .i64 0) := (by obtain ⟨T, h1, _⟩ := hs.ex; exact rowC h1 4 rfl); have X3 := hide hw; clear r0 r1 r2 r3 r4 rf; have RN4 := hw.row (set5_row (unhide RN3) k o ss nn _) (by omega); have z0 := rowC RN4 0 rfl; have z1 := rowC RN4 1 rfl; have z2 := rowC RN4 2 rfl; have z3 := rowC RN4 3 rfl; have z4 := rowC RN4 4 rfl; have zf := rowF RN4; have E3 := hide ((set5_ext (unhide X2) w.heap.size (Nat.le_refl _) k o ss nn _).gr hw (by omega)); have RN5 := hide RN4; clear hw hs RN4))
    have hb1 : gg < w1.heap.size := (unhide O1).st.lt
    have hRep : Hd (RepN (set5 w3 w.heap.size k o ss nn (.slice la l.length lc)) (Fr w.heap.size (set5 w3 w.heap.size k o ss nn (.slice la l.length lc)).heap.size) ⟨k, o, ss, nn, l⟩ (nodV k o ss nn (.slice la l.length lc))) := by
      have hx := (unhide X3)
      have hz := hx.size
      rw [set5_size] at hz
      have hz1 := (unhide X1).size
      rw [set5_size]
      refine RepN.to (fun b hb => ⟨⟨by have := hb.1; omega, Nat.lt_of_lt_of_le hb.2 hz⟩, ?_⟩) _ _ (unhide RP)
      have h1 := hb.1
      have h2 := hb.2
      have hN : b ≠ w.heap.size := by have := (unhide RN1); have := (Array.getElem?_eq_some_iff.1 this).1; omega
      rw [set5_block hN, hx.block b (by rw [set5_size]; exact h2) (by omega), set5_block hN]
    have hE : Hd (Ext w (set5 w3 w.heap.size k o ss nn (.slice la l.length lc))) := set5_ext (unhide E3) w.heap.size (Nat.le_refl _) k o ss nn _
    have hRow := set5_row (unhide RN5) k o ss nn (.slice la l.length lc)
    have q0 := rowC hRow 0 rfl
    have q1 := rowC hRow 1 rfl
    have q2 := rowC hRow 2 rfl
    have q3 := rowC hRow 3 rfl
    have q4 := rowC hRow 4 rfl
    clear hRow z0 z1 z2 z3 z4
    exact bodyPost_ret (v := .tuple #[nodV k o ss nn (.slice la l.length lc), .int .i64 0, .int .i64 0]) (by simp [results, Tryz.results14, go_sem, q0, q1, q2, q3, q4]) rfl ⟨unhide hE, Or.inr ⟨rfl, _, rfl, unhide hRep⟩⟩
  · have h1 : (er == 0) = false := by simpa using h0
    have h2 : (er != 0) = true := by simp [h0]
    have H0 := hide h0
    clear h0
    go_enter Tryz.func14, Tryz.ntmps14
    go_wp2_with (first
      | (go_at_call 8; refine Calls.mono (unhide HBg _ (Ext.alloc _ _)) ?_; rintro e w1 ⟨gg, rfl, hgg, hs, hw⟩; have hgg : w.heap.size + 1 ≤ gg := (by rw [size_alloc] at hgg; exact hgg); have RN1 := hide (hw.row (Go.heap_alloc_new w _)); have X1 := hide ((Ext.alloc _ _).trans hw); have O1 := hide (Rs.mk hs ((unhide HO).ext (unhide X1)) (by omega)); clear hw hs)
      | (go_at_call 31; refine Calls.mono (unhide HX gg _ (unhide O1)) ?_; rintro e w2 ⟨v, rfl, hrep, hs, hw⟩; have S2 := hide hs; have RP := hide hrep; have X2 := hide ((unhide X1).gr hw (by omega)); rw [RepN] at hrep; obtain ⟨la, lc, rfl, _, _⟩ := hrep; have RN2 := hw.row (unhide RN1) (by omega); have r0 := rowC RN2 0 rfl; have r1 := rowC RN2 1 rfl; have r2 := rowC RN2 2 rfl; have r3 := rowC RN2 3 rfl; have r4 := rowC RN2 4 rfl; have rf := rowF RN2; have S3 := hide (hs.apart RN2 (by omega)); have RN3 := hide RN2; clear hw hs RN2)
      | (go_at_call 32; refine Calls.mono (unhide HFi gg _ (unhide S3 _ (fun b hb => set5_other w2 _ b k o ss nn _ hb))) ?_; rintro e w3 ⟨rfl, hs, hw⟩; have c3 : w3.cell? ⟨gg, 3, none⟩ = some (.int .i64 pl) := (by obtain ⟨T, h1, _⟩ := hs.ex; exact rowC h1 3 rfl); have c4 : w3.cell? ⟨gg, 4, none⟩ = some (.int .i64 er) := (by obtain ⟨T, h1, _⟩ := hs.ex; exact rowC h1 4 rfl); have X3 := hide hw; clear r0 r1 r2 r3 r4 rf; have RN4 := hw.row (set5_row (unhide RN3) k o ss nn _) (by omega); have z0 := rowC RN4 0 rfl; have z1 := rowC RN4 1 rfl; have z2 := rowC RN4 2 rfl; have z3 := rowC RN4 3 rfl; have z4 := rowC RN4 4 rfl; have zf := rowF RN4; have E3 := hide ((set5_ext (unhide X2) w.heap.size (Nat.le_refl _) k o ss nn _).gr hw (by omega)); have RN5 := hide RN4; clear hw hs RN4))
    go_region
    have hRow := set5_row (unhide RN5) 0 0 ⟨#[]⟩ 0 (.slice none 0 0)
    have hE : Hd (Ext w (set5 w3 w.heap.size 0 0 ⟨#[]⟩ 0 (.slice none 0 0))) := set5_ext (unhide E3) w.heap.size (Nat.le_refl _) 0 0 ⟨#[]⟩ 0 _
    have q0 := rowC hRow 0 rfl
    have q1 := rowC hRow 1 rfl
    have q2 := rowC hRow 2 rfl
    have q3 := rowC hRow 3 rfl
    have q4 := rowC hRow 4 rfl
    clear hRow z0 z1 z2 z3 z4
    go_wp2_with fail
    exact bodyPost_ret (v := .tuple #[nodV 0 0 ⟨#[]⟩ 0 (.slice none 0 0), .int .i64 pl, .int .i64 er]) (by simp [results, Tryz.results14, go_sem, q0, q1, q2, q3, q4]) rfl ⟨(unhide hE).drew, Or.inl ⟨unhide H0, rfl⟩⟩

/-- parse.Expr at any text that there can be. -/
theorem exprT_all (s : ByteArray) (f : Nat) (w : World) (he : Er w) (hO : Opx w) (hmax : s.size ≤ 9223372036854775807) (hf : (begP s).ts.length < f) (hf2 : f ≤ 100000) :
    Calls Tryz.prog 14 #[.string s] w (ExprOf (xrP s f) w) := by
  by_cases h4 : 4000 < s.size
  · exact exprT_of s f w he hO (fun W x => pbegin_long s W h4 hmax) hf hf2
  · exact exprT_any s f w he hO (by omega) hf hf2

end Go.Proofs.YtgkiihjakbnhcaaGreatDoor

namespace Go.Proofs.YtgkiihjakbnhcaaGreatDoor
open Go.RowKit

theorem rprog_any (s : ByteArray) (f : Nat) (w : World) (hmax : s.size ≤ 9223372036854775807) (hf : (begP s).ts.length < f) (hf2 : f ≤ 90000) : Calls Tryz.prog 5 #[.string s] w (RToldF (rdP s f) w) := by
  by_cases hs : 4000 < s.size
  · have hb := begP_long hs
    have hx := rd_bad (s := s) (f := f) (by rw [hb]; exact ⟨fun e => absurd e (show ¬ (2 : Int) = 0 by decide), fun _ => rfl⟩) (by rw [hb]; exact (show ¬ (2 : Int) = 0 by decide))
    rw [hb] at hx
    refine rprog_err s f w 0 2 (by decide) hx fun W => Calls.mono (rtokens_any s W (by omega)) ?_
    rintro e w' (⟨_, he, hw⟩ | ⟨h9, _⟩ | ⟨h9, _⟩)
    · exact ⟨he, hw⟩
    · omega
    · omega
  · cases hn : (lexF (s.size + 1) s 0).2 with
    | some b =>
      have hb := begP_bad (by omega) hn
      have hx := rd_bad (s := s) (f := f) (by rw [hb]; exact ⟨fun e => absurd e (show ¬ (10 : Int) = 0 by decide), fun _ => rfl⟩) (by rw [hb]; exact (show ¬ (10 : Int) = 0 by decide))
      rw [hb] at hx
      refine rprog_err s f w b 10 (by decide) hx fun W => Calls.mono (rtokens_any s W (by omega)) ?_
      rintro e w' (⟨h9, _⟩ | ⟨_, b2, h9, he, hw⟩ | ⟨_, h9, _⟩)
      · omega
      · rw [hn] at h9
        injection h9 with h9
        subst h9
        exact ⟨he, hw⟩
      · rw [hn] at h9; cases h9
    | none => exact rprog_ok s f w (by omega) hn hf hf2

set_option maxHeartbeats 1000000 in
theorem program_of (s : ByteArray) (f : Nat) (w : World) (he : Er w) (hO : Opx w) (hBg : Calls Tryz.prog 8 #[.string s] w fun e w' => ∃ g, e = .returned (.pointer (some ⟨g, 0, none⟩)) ∧ w.heap.size ≤ g ∧ St w' g s.size (begP s) ∧ Ext w w') (hf : (begP s).ts.length < f) (hf2 : f ≤ 100000) :
    Calls Tryz.prog 4 #[.string s] w (ProgOf (rdP s f) w) := by
  have HBg := hide hBg
  have hlen := funs_len s.size (stsP s.size f f).2.1 f (blkIs_le s.size f) f [] (begP s)
  have HF := hide (fun gg W (x : Rs W gg s.size (begP s)) => funs_any s.size gg (stsP s.size f f).2.1 f (begP s) W x hf hf2 (blkIs_le s.size f) (fun p hp => (blkIs gg s.size f hf2).ex p W (by omega)))
  have hp := opx_lt hO
  have HO := hide hO
  replace HF : Hd (∀ gg W, Rs W gg s.size (begP s) → Calls Tryz.prog 9 #[.pointer (some ⟨gg, 0, none⟩)] W (FunsAre gg s.size W (rdP s f))) := HF
  replace hlen : (rdP s f).1.length ≤ 100001 := by
    have : (rdP s f).1.length ≤ 0 + (begP s).ts.length := hlen
    omega
  generalize rdP s f = q at *
  generalize begP s = st0 at *
  obtain ⟨fs, ⟨ts, op, pl, er⟩⟩ := q
  clear hO hf he hBg
  by_cases h0 : er = 0
  · subst h0
    cases ht : tooP fs
    · go_enter Tryz.func4, Tryz.ntmps4
      go_wp2_with (first
        | (go_at_call 8; refine Calls.mono (unhide HBg) ?_; rintro e w1 ⟨gg, rfl, hgg, hs, hw⟩; have S1 := hide hs; have X1 := hide hw; have O1 := hide (Rs.mk hs ((unhide HO).ext hw) (by omega)); clear hw hs)
        | (go_at_call 9; refine Calls.mono (unhide HF gg _ (unhide O1)) ?_; rintro e w2 ⟨a, cap, rfl, hcap, hfl, hs, hw⟩; have HTo := hide (too_any fs a cap _ w2 hfl hcap hlen); have c3 : w2.cell? ⟨gg, 3, none⟩ = some (.int .i64 pl) := (by obtain ⟨T, h1, _⟩ := hs.ex; exact rowC h1 3 rfl); have c4 : w2.cell? ⟨gg, 4, none⟩ = some (.int .i64 0) := (by obtain ⟨T, h1, _⟩ := hs.ex; exact rowC h1 4 rfl); have FL := hide hfl; have X2 := hide ((unhide X1).gr hw hgg); have hz2 : w1.heap.size ≤ w2.heap.size := hw.size; have hz1 : w.heap.size ≤ w1.heap.size := (unhide X1).le; clear hw hs hfl)
        | (go_at_call 10; refine Calls.mono (unhide HTo) ?_; rintro e w3 ⟨he, hw⟩; rw [ht] at he; obtain rfl := he; have X3 := hide hw; clear hw))
      exact bodyPost_ret (v := .tuple #[.slice a fs.length cap, .int .i64 0, .int .i64 0]) (by simp [results, Tryz.results4]) rfl ⟨(unhide X2).trans (unhide X3), Or.inr (Or.inr ⟨rfl, ht, a, cap, rfl, hcap, RepFL.to (fun b hb => ⟨⟨by have := hb.1; omega, Nat.lt_of_lt_of_le hb.2 (unhide X3).le⟩, (unhide X3).block b hb.2⟩) (unhide FL)⟩)⟩
    · go_enter Tryz.func4, Tryz.ntmps4
      go_wp2_with (first
        | (go_at_call 8; refine Calls.mono (unhide HBg) ?_; rintro e w1 ⟨gg, rfl, hgg, hs, hw⟩; have S1 := hide hs; have X1 := hide hw; have O1 := hide (Rs.mk hs ((unhide HO).ext hw) (by omega)); clear hw hs)
        | (go_at_call 9; refine Calls.mono (unhide HF gg _ (unhide O1)) ?_; rintro e w2 ⟨a, cap, rfl, hcap, hfl, hs, hw⟩; have HTo := hide (too_any fs a cap _ w2 hfl hcap hlen); have c3 : w2.cell? ⟨gg, 3, none⟩ = some (.int .i64 pl) := (by obtain ⟨T, h1, _⟩ := hs.ex; exact rowC h1 3 rfl); have c4 : w2.cell? ⟨gg, 4, none⟩ = some (.int .i64 0) := (by obtain ⟨T, h1, _⟩ := hs.ex; exact rowC h1 4 rfl); have FL := hide hfl; have X2 := hide ((unhide X1).gr hw hgg); have hz2 : w1.heap.size ≤ w2.heap.size := hw.size; have hz1 : w.heap.size ≤ w1.heap.size := (unhide X1).le; clear hw hs hfl)
        | (go_at_call 10; refine Calls.mono (unhide HTo) ?_; rintro e w3 ⟨he, hw⟩; rw [ht] at he; obtain rfl := he; have X3 := hide hw; clear hw))
      exact bodyPost_ret (v := .tuple #[.slice none 0 0, .int .i64 0, .int .i64 65]) (by simp [results, Tryz.results4]) rfl ⟨(unhide X2).trans (unhide X3), Or.inr (Or.inl ⟨rfl, ht, rfl⟩)⟩
  · have h1 : (er == 0) = false := by simpa using h0
    have h2 : (er != 0) = true := by simp [h0]
    have H0 := hide h0
    clear h0
    go_enter Tryz.func4, Tryz.ntmps4
    go_wp2_with (first
      | (go_at_call 8; refine Calls.mono (unhide HBg) ?_; rintro e w1 ⟨gg, rfl, hgg, hs, hw⟩; have S1 := hide hs; have X1 := hide hw; have O1 := hide (Rs.mk hs ((unhide HO).ext hw) (by omega)); clear hw hs)
      | (go_at_call 9; refine Calls.mono (unhide HF gg _ (unhide O1)) ?_; rintro e w2 ⟨a, cap, rfl, hcap, hfl, hs, hw⟩; have HTo := hide (too_any fs a cap _ w2 hfl hcap hlen); have c3 : w2.cell? ⟨gg, 3, none⟩ = some (.int .i64 pl) := (by obtain ⟨T, h1, _⟩ := hs.ex; exact rowC h1 3 rfl); have c4 : w2.cell? ⟨gg, 4, none⟩ = some (.int .i64 er) := (by obtain ⟨T, h1, _⟩ := hs.ex; exact rowC h1 4 rfl); have FL := hide hfl; have X2 := hide ((unhide X1).gr hw hgg); have hz2 : w1.heap.size ≤ w2.heap.size := hw.size; have hz1 : w.heap.size ≤ w1.heap.size := (unhide X1).le; clear hw hs hfl))
    go_region
    go_wp2_with fail
    exact bodyPost_ret (v := .tuple #[.slice none 0 0, .int .i64 pl, .int .i64 er]) (by simp [results, Tryz.results4]) rfl ⟨(unhide X2).trans (Ext.drew (Ext.refl _)), Or.inl ⟨unhide H0, rfl⟩⟩

/-- parse.Program at any text that there can be. -/
theorem program_all (s : ByteArray) (f : Nat) (w : World) (he : Er w) (hO : Opx w) (hmax : s.size ≤ 9223372036854775807) (hf : (begP s).ts.length < f) (hf2 : f ≤ 100000) :
    Calls Tryz.prog 4 #[.string s] w (ProgOf (rdP s f) w) := by
  by_cases h4 : 4000 < s.size
  · exact program_of s f w he hO (pbegin_long s w h4 hmax) hf hf2
  · exact program_any s f w he hO (by omega) hf hf2

set_option maxHeartbeats 2000000 in
theorem rsameF_bl (l : List PFn) (hl : ∀ q ∈ l, q.ps.length ≤ 100000000 ∧ BL q.bd) (a b : Option Addr) (ca cb : Nat) (w : World) (h1 : RepFL w (InW w) l a) (h2 : RepFL w (InW w) l b) (hn : l.length ≤ 100000000) :
    Calls Tryz.prog 6 #[.slice a l.length ca, .slice b l.length cb] w fun e w' => e = .returned (.bool true) ∧ Ext w w' := by
  have HA := hide h1
  have HB := hide h2
  have HS := hide hl
  clear h1 h2 hl
  generalize hN : l.length = n at *
  go_enter Tryz.func6, Tryz.ntmps6
  go_wp2_with fail
  go_loopw [5] (fun t wr => ∃ (j : Nat), t = .int .i64 j ∧ j ≤ n ∧ Hd (Ext w wr)) (fun t _ => n - (intOf t).toNat)
  case atStart => exact ⟨0, rfl, by omega, Ext.refl w⟩
  case round =>
    obtain ⟨j, rfl, hj, hX⟩ := hrel
    by_cases hlt : j < n
    · obtain ⟨q, hq⟩ : ∃ q, l[j]? = some q := ⟨_, List.getElem?_eq_getElem (by omega)⟩
      have hbq := unhide HS q (List.mem_of_getElem? hq)
      obtain ⟨b1, o1, pa, ca1, qa, da, rfl, f1, k1, _, s1, m1, t1⟩ := ((unhide HA).inw (unhide hX)).at j q hq
      obtain ⟨b2, o2, pb, cb1, qb, db, rfl, f2, k2, _, s2, m2, t2⟩ := ((unhide HB).inw (unhide hX)).at j q hq
      obtain ⟨nm, ps, bk, bo, bs, bn, bl⟩ := q
      simp only at hbq
      obtain ⟨hps, hbN⟩ := hbq
      simp only at k1 k2 s1 s2 m1 m2 t1 t2 hps
      have HP := hide (fun (W : World) (k : Ext wr W) => rsame_bl ⟨bk, bo, bs, bn, bl⟩ hbN (.agg #[.int .i64 bk, .int .i64 bo, .string bs, .int .i64 bn, .slice qa bl.length da]) (.agg #[.int .i64 bk, .int .i64 bo, .string bs, .int .i64 bn, .slice qb bl.length db]) W (by rw [RepN]; exact ⟨_, _, rfl, m1, t1.inw k⟩) (by rw [RepN]; exact ⟨_, _, rfl, m2, t2.inw k⟩))
      have K1 := hide k1
      have K2 := hide k2
      have S1 := hide s1
      have S2 := hide s2
      have HW : Nonempty (RGw wr) := ⟨⟨wr, Ext.refl _⟩⟩
      have kc0 : ∀ y : RGw wr, y.w.cell? ⟨b1, o1 + j * 7, none⟩ = some (.string nm) := fun y => y.h.cell (k1 0 _ rfl)
      have kc1 : ∀ y : RGw wr, y.w.cell? ⟨b1, o1 + j * 7 + 1, none⟩ = some (.slice pa ps.length ca1) := fun y => y.h.cell (k1 1 _ rfl)
      have kc2 : ∀ y : RGw wr, y.w.cell? ⟨b1, o1 + j * 7 + 2, none⟩ = some (.int .i64 bk) := fun y => y.h.cell (k1 2 _ rfl)
      have kc3 : ∀ y : RGw wr, y.w.cell? ⟨b1, o1 + j * 7 + 3, none⟩ = some (.int .i64 bo) := fun y => y.h.cell (k1 3 _ rfl)
      have kc4 : ∀ y : RGw wr, y.w.cell? ⟨b1, o1 + j * 7 + 4, none⟩ = some (.string bs) := fun y => y.h.cell (k1 4 _ rfl)
      have kc5 : ∀ y : RGw wr, y.w.cell? ⟨b1, o1 + j * 7 + 5, none⟩ = some (.int .i64 bn) := fun y => y.h.cell (k1 5 _ rfl)
      have kc6 : ∀ y : RGw wr, y.w.cell? ⟨b1, o1 + j * 7 + 6, none⟩ = some (.slice qa bl.length da) := fun y => y.h.cell (k1 6 _ rfl)
      have kd0 : ∀ y : RGw wr, y.w.cell? ⟨b2, o2 + j * 7, none⟩ = some (.string nm) := fun y => y.h.cell (k2 0 _ rfl)
      have kd1 : ∀ y : RGw wr, y.w.cell? ⟨b2, o2 + j * 7 + 1, none⟩ = some (.slice pb ps.length cb1) := fun y => y.h.cell (k2 1 _ rfl)
      have kd2 : ∀ y : RGw wr, y.w.cell? ⟨b2, o2 + j * 7 + 2, none⟩ = some (.int .i64 bk) := fun y => y.h.cell (k2 2 _ rfl)
      have kd3 : ∀ y : RGw wr, y.w.cell? ⟨b2, o2 + j * 7 + 3, none⟩ = some (.int .i64 bo) := fun y => y.h.cell (k2 3 _ rfl)
      have kd4 : ∀ y : RGw wr, y.w.cell? ⟨b2, o2 + j * 7 + 4, none⟩ = some (.string bs) := fun y => y.h.cell (k2 4 _ rfl)
      have kd5 : ∀ y : RGw wr, y.w.cell? ⟨b2, o2 + j * 7 + 5, none⟩ = some (.int .i64 bn) := fun y => y.h.cell (k2 5 _ rfl)
      have kd6 : ∀ y : RGw wr, y.w.cell? ⟨b2, o2 + j * 7 + 6, none⟩ = some (.slice qb bl.length db) := fun y => y.h.cell (k2 6 _ rfl)
      clear k1 k2 s1 s2 t1 t2 f1 f2 hq hbN K1 K2
      generalize bl.length = m at *
      generalize hPN : ps.length = pn at *
      go_wp2_with fail
      refine wp_region_rx (W := wr) (by kernel_rfl) (by kernel_rfl) (Ext.refl _) ?_
      repeat (go_big_quiet_step (first
        | (go_at_call 13; exact Calls.rx_of _ _ (unhide HP _ (RGw.h _)))))
      refine wpQuiet_nil ?_
      rintro _ ⟨⟨w2, hx⟩, rfl⟩
      have HX := hide hx
      clear hx kc0 kc2 kc3 kc4 kc5 kc6 kd0 kd2 kd3 kd4 kd5 kd6
      have kc1 := hide kc1
      have kd1 := hide kd1
      have a1 := unhide kc1 ⟨_, unhide HX⟩
      simp only at a1
      go_wp2_with fail
      go_loopw [6] (fun t wr2 => ∃ (k : Nat), t = .int .i64 k ∧ k ≤ pn ∧ Hd (Ext wr wr2)) (fun t _ => pn - (intOf t).toNat)
      case atStart => exact ⟨0, rfl, by omega, HX⟩
      case round =>
        clear HX
        obtain ⟨k, rfl, hk, hx⟩ := hrel
        have a1 := unhide kc1 ⟨_, unhide hx⟩
        have a2 := unhide kd1 ⟨_, unhide hx⟩
        simp only at a1 a2
        by_cases hlt2 : k < pn
        · obtain ⟨p, hp⟩ : ∃ p, ps[k]? = some p := ⟨_, List.getElem?_eq_getElem (by omega)⟩
          obtain ⟨c1, x1, rfl, f1, e0⟩ := ((unhide S1).inw (unhide hx)).at k p hp
          obtain ⟨c2, x2, rfl, f2, g0⟩ := ((unhide S2).inw (unhide hx)).at k p hp
          clear f1 f2 hp
          go_wp2_with fail
          go_region
          go_wp2_with fail
          go_roundw
          case rel => exact ⟨k + 1, by go_num, by omega, (unhide hx).drew⟩
          case measure => simp [intOf]; omega
        · obtain rfl : k = pn := by omega
          go_wp2_with fail
          go_roundw
          case rel => exact ⟨j + 1, by go_num, by omega, (unhide hX).trans (unhide hx)⟩
          case measure => simp [intOf]; omega
    · obtain rfl : j = n := by omega
      go_wp2_with fail
      go_ret
      exact ⟨rfl, unhide hX⟩

theorem parLoop_len (len : Nat) : ∀ (f : Nat) (acc : List ByteArray) (st : PS), (parLoop len f acc st).1.length ≤ acc.length + f
  | 0, acc, st => by simp [parLoop]
  | f + 1, acc, st => by
    rw [parLoop]
    split
    · have h := parLoop_len len f (acc ++ [(st.next.name len).1]) (st.next.name len).2
      simp at h
      omega
    · simp
theorem par_len (len f : Nat) (st : PS) : (parP len f st).1.length ≤ 1 + f := by
  unfold parP
  split
  · simp
  · exact parLoop_len len f _ _
theorem funs_bl (len : Nat) {bl : Rdr} (hb : Shorter bl) (hB : BR bl) (f : Nat) (hf : f ≤ 100000) : ∀ (j : Nat) (acc : List PFn) (st : PS), st.ts.length ≤ 99999 → (∀ q ∈ acc, q.ps.length ≤ 100000000 ∧ BL q.bd) → ∀ q ∈ (funsP len bl f j acc st).1, q.ps.length ≤ 100000000 ∧ BL q.bd
  | 0, acc, st, hl, ha => ha
  | j + 1, acc, st, hl, ha => by
    rw [funsP]
    split
    · exact ha
    · rename_i hz
      have hne : st.ts ≠ [] := fun e => by rw [e] at hz; simp at hz
      have h1 := fun_lt (len := len) (f := f) hb hne
      have h2 := funB_lt (len := len) (f := f) hne
      refine funs_bl len hb hB f hf j _ _ (by omega) (fun q hq => ?_)
      rcases List.mem_append.1 hq with hq | hq
      · exact ha q hq
      · simp at hq
        subst hq
        refine ⟨?_, hB _ (by omega)⟩
        have h3 := par_len len f ((funA len st).2.sign len ⟨#[40]⟩)
        show (parP len f ((funA len st).2.sign len ⟨#[40]⟩)).1.length ≤ _
        omega
theorem rd_bl (s : ByteArray) (f : Nat) (hf : f ≤ 100000) : ∀ q ∈ (rdP s f).1, q.ps.length ≤ 100000000 ∧ BL q.bd :=
  funs_bl s.size (sts_le s.size f f).2.1 (sts_bl s.size f f).2.1 f hf f [] (begP s) (by have := begP_len s; omega) (fun q h => by cases h)
theorem rd_len (s : ByteArray) (f : Nat) : (rdP s f).1.length ≤ 100000000 := by
  have h := funs_len s.size (stsP s.size f f).2.1 f (sts_le s.size f f).2.1 f [] (begP s)
  have h2 := begP_len s
  have h3 : (rdP s f).1.length ≤ 0 + (begP s).ts.length := h
  omega

end Go.Proofs.YtgkiihjakbnhcaaGreatDoor

namespace Go.Proofs.YtgkiihjakbnhcaaGreatDoor
open Go.RowKit

def awL : List UInt8 := [97, 32, 43, 32, 98, 32, 42, 32, 50, 32, 60, 32, 51]
def awP : PN := ⟨11, 8, emptyB, 0, [⟨11, 1, emptyB, 0, [⟨19, 0, ⟨#[97]⟩, 0, []⟩, ⟨11, 3, emptyB, 0, [⟨19, 0, ⟨#[98]⟩, 0, []⟩, ⟨15, 0, emptyB, 2, []⟩]⟩]⟩, ⟨15, 0, emptyB, 3, []⟩]⟩
theorem aw_x : xrP ⟨awL.toArray⟩ 50 = (awP, ⟨[], 0, 0, 0⟩) := by kernel_rfl
theorem aw_e : wE 10 awP 1 (([], false), 0) = some ((awL, false), 7) := by kernel_rfl
theorem aw_b : bdN 5 awP = true := by decide +kernel
theorem aw_l : (begP ⟨awL.toArray⟩).ts.length < 50 := by decide +kernel
def mnB : ByteArray := ⟨#[102, 110, 32, 109, 97, 105, 110, 32, 40, 32, 41, 32, 123, 32, 125]⟩
def mnF : PFn := ⟨⟨#[109, 97, 105, 110]⟩, [], ⟨10, 0, emptyB, 0, []⟩⟩
theorem mn_x : rdP mnB 50 = ([mnF], ⟨[], 0, 0, 0⟩) := by kernel_rfl
theorem mn_l : (begP mnB).ts.length < 50 := by decide +kernel
theorem mn_t : tooP [mnF] = false := by decide +kernel

set_option maxHeartbeats 1000000 in
theorem awake5_w (w : World) (he : Er w) (hO : Opx w) : Calls Tryz.prog 7 #[] w fun e w' => e = .returned (.bool true) ∧ Ext w w' := by
  have HX : Hd (Calls Tryz.prog 14 #[.string ⟨#[97, 32, 43, 32, 98, 32, 42, 32, 50, 32, 60, 32, 51]⟩] w fun e w' => ∃ ua uc, e = .returned (.tuple #[.agg #[.int .i64 11, .int .i64 8, .string emptyB, .int .i64 0, .slice ua 2 uc], .int .i64 0, .int .i64 0]) ∧ RepN w' (InW w') awP (.agg #[.int .i64 11, .int .i64 8, .string emptyB, .int .i64 0, .slice ua 2 uc]) ∧ Ext w w') := by
    refine Calls.mono (exprT_any ⟨awL.toArray⟩ 50 w he hO (by decide) aw_l (by omega)) ?_
    rw [aw_x]
    rintro e w' ⟨hw, h9 | ⟨h9, u, rfl, ru⟩⟩
    · exact absurd rfl h9.1
    · have ru2 : RepN w' (InW w') awP u := RepN.to (fun b hb => ⟨hb.2, rfl⟩) _ _ ru
      have ru3 := ru2
      unfold awP at ru3
      rw [RepN] at ru3
      obtain ⟨ua, uc, rfl, _, _⟩ := ru3
      exact ⟨ua, uc, rfl, ru2, hw⟩
  have HS : Hd (∀ (v : Value) (W : World), Ext w W → RepN W (InW W) awP v → Calls Tryz.prog 15 #[v] W fun e w' => e = .returned (.tuple #[.string ⟨#[97, 32, 43, 32, 98, 32, 42, 32, 50, 32, 60, 32, 51]⟩, .bool true]) ∧ Ext W w') := fun v W x h => show_w awP 10 50 5 awL 7 _ v W (he.on x) (hO.ext x) h aw_e aw_x rfl aw_b (by decide) aw_l (by omega)
  have HP : Hd (∀ W, Ext w W → Calls Tryz.prog 4 #[.string ⟨#[102, 110, 32, 109, 97, 105, 110, 32, 40, 32, 41, 32, 123, 32, 125]⟩] W fun e w' => ∃ b off uc, e = .returned (.tuple #[.slice (some ⟨b, off, none⟩) 1 uc, .int .i64 0, .int .i64 0]) ∧ w'.cell? ⟨b, off, none⟩ = some (.string ⟨#[109, 97, 105, 110]⟩) ∧ Ext W w') := fun W x => by
    refine Calls.mono (program_any mnB 50 W (he.on x) (hO.ext x) (by decide) mn_l (by omega)) ?_
    rw [mn_x]
    rintro e w' ⟨hw, h9 | ⟨_, h9, _⟩ | ⟨_, _, a, c, rfl, _, hr⟩⟩
    · exact absurd rfl h9.1
    · rw [mn_t] at h9; cases h9
    · rcases hr with h | ⟨b, off, xs, rfl, _, hx, hcx⟩
      · cases h
      · obtain ⟨pa, pc, a2, cap2, _, _, _, _, hat⟩ := hx.at (j := 0) (p := mnF) rfl
        have h0 := hcx _ _ (hat 0 (.string mnF.nm) rfl)
        rw [Nat.zero_mul, Nat.zero_add, Nat.add_zero] at h0
        exact ⟨b, off, c, rfl, h0, hw⟩
  clear he hO
  go_enter Tryz.func7, Tryz.ntmps7
  go_wp2_with (first
    | (go_at_call 14; refine Calls.mono (unhide HX) ?_; rintro e w1 ⟨ua, uc, rfl, ru, hw⟩; have X1 := hide hw; have U1 := hide ru; clear hw ru)
    | (have T9 := unhide X1; go_at_call 15; refine Calls.mono (unhide HS _ _ (T9.trans (Ext.alloc _ _)) ((unhide U1).inw (Ext.alloc _ _))) ?_; rintro e w2 ⟨rfl, hw⟩; have X2 := hide ((T9.trans (Ext.alloc _ _)).trans hw); have rr := hw.row (Go.heap_alloc_new w1 _); have b0 := rowC rr 0 rfl; have b1 := rowC rr 1 rfl; have b2 := rowC rr 2 rfl; have b3 := rowC rr 3 rfl; have b4 := rowC rr 4 rfl; clear rr; clear hw T9)
    | (have T9 := unhide X2; go_at_call 4; refine Calls.mono (unhide HP _ T9) ?_; rintro e w3 ⟨fb, fo, fc, rfl, hc, hw⟩; have X3 := hide (T9.trans hw); have b0 := hw.cell b0; have b1 := hw.cell b1; have b2 := hw.cell b2; have b3 := hw.cell b3; have b4 := hw.cell b4; clear hw T9))
  go_ret
  exact ⟨ret_bool (by first | rfl | decide +kernel | simp), unhide X3⟩

end Go.Proofs.YtgkiihjakbnhcaaGreatDoor
