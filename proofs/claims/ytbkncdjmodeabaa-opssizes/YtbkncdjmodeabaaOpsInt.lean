/- The ops of two ints. -/
import Derived.Test.YtbkncdjmodeabaaOpsBin
import Derived.Test.YtbkncdjmodeabaaValFact
set_option linter.unusedSimpArgs false
set_option maxRecDepth 10000
namespace Go.Proofs.Ytbkncdjmodeabaa
open Go.RowKit

theorem rep_it (w : World) (F : Nat → Prop) (n : Int) (h1 : -9223372036854775808 ≤ n) (h2 : n ≤ 9223372036854775807) (a : Option Addr) (c : Nat) : Rep w F (it n) (.agg #[.int .i64 1, .int .i64 n, .complex .f64 0 0, .string ⟨#[]⟩, .slice a 0 c]) := by
  rw [it, Rep]
  exact ⟨a, c, rfl, ⟨by decide, by decide, h1, h2, by decide, by decide, by decide, by decide, Nat.zero_le _⟩, by simp [RepL]⟩

theorem wrap_lo (n : Int) : -9223372036854775808 ≤ wrap64 n := by unfold wrap64; omega
theorem wrap_hi (n : Int) : wrap64 n ≤ 9223372036854775807 := by unfold wrap64; omega

theorem rep_wrap (w : World) (F : Nat → Prop) (n : Int) : Rep w F (it (wrap64 n)) (.agg #[.int .i64 1, .int .i64 (wrap64 n), .complex .f64 0 0, .string ⟨#[]⟩, .slice none 0 0]) := rep_it w F _ (wrap_lo n) (wrap_hi n) none 0

theorem add_ints (n n' : Int) (re im re' im' : Nat) (s s' : ByteArray) (a a' : Option Addr) (l c l' c' : Nat) (w : World) :
    Ans 18 #[.agg #[.int .i64 1, .int .i64 n, .complex .f64 re im, .string s, .slice a l c], .agg #[.int .i64 1, .int .i64 n', .complex .f64 re' im', .string s', .slice a' l' c']] w (it (wrap64 (n + n'))) 0 := by
  have hb := fun W => both_any 1 1 n 1 n' re im re' im' s s' a a' l c l' c' W
  simp only [decide_true, Bool.and_self] at hb
  have B := hide hb
  clear hb
  unfold Ans
  go_enter Try.func18, Try.ntmps18
  go_wp2_with (first
    | (go_at_call 39; refine Calls.mono (unhide B _) ?_; rintro e w1 ⟨rfl, hw1⟩
       have FZ := (Five.new _ _ _ _ _ _ _ _ _ _).on hw1; have y1 := (Ext.alloc _ _).trans hw1; have FB := (Five.new _ _ _ _ _ _ _ _ _ _).on y1; have x1 := (Ext.alloc _ _).trans y1; have FA := (Five.new _ _ _ _ _ _ _ _ _ _).on x1
       simp only [heap_alloc_size] at FZ FB
       have p0 := FA.c0; have p1 := FA.c1; have p2 := FA.c2; have p3 := FA.c3; have p4 := FA.c4; have q0 := FB.c0; have q1 := FB.c1; have q2 := FB.c2; have q3 := FB.c3; have q4 := FB.c4
       have X0 := hide ((Ext.alloc _ _).trans x1); have Z := hide FZ; clear hw1 x1 y1 FA FB FZ)
    | (go_at_call 40; refine Calls.mono (int_any _ _) ?_; rintro e w2 ⟨rfl, hw2⟩; have fZ := (unhide Z).on hw2; have z0 := fZ.c0; have z1 := fZ.c1; have z2 := fZ.c2; have z3 := fZ.c3; have z4 := fZ.c4; have zf := fZ.fz; clear fZ; have W2 := hide hw2; clear hw2))
  exact bodyPost_ret (v := .tuple #[.agg #[.int .i64 1, .int .i64 (wrap64 (n + n')), .complex .f64 0 0, .string ⟨#[]⟩, .slice none 0 0], .int .i64 0]) (by simp [results, Try.results18, go_sem, z0, z1, z2, z3, z4]) rfl (ans5 0 (w.heap.size + 1 + 1) (unhide X0) (by omega) (World.block_lt_of_cell? _ _ (unhide Z).c0) (unhide W2) (rep_wrap _ _ _))

theorem sub_ints (n n' : Int) (re im re' im' : Nat) (s s' : ByteArray) (a a' : Option Addr) (l c l' c' : Nat) (w : World) :
    Ans 19 #[.agg #[.int .i64 1, .int .i64 n, .complex .f64 re im, .string s, .slice a l c], .agg #[.int .i64 1, .int .i64 n', .complex .f64 re' im', .string s', .slice a' l' c']] w (it (wrap64 (n - n'))) 0 := by
  have hb := fun W => both_any 1 1 n 1 n' re im re' im' s s' a a' l c l' c' W
  simp only [decide_true, Bool.and_self] at hb
  have B := hide hb
  clear hb
  unfold Ans
  go_enter Try.func19, Try.ntmps19
  go_wp2_with (first
    | (go_at_call 39; refine Calls.mono (unhide B _) ?_; rintro e w1 ⟨rfl, hw1⟩
       have FZ := (Five.new _ _ _ _ _ _ _ _ _ _).on hw1; have y1 := (Ext.alloc _ _).trans hw1; have FB := (Five.new _ _ _ _ _ _ _ _ _ _).on y1; have x1 := (Ext.alloc _ _).trans y1; have FA := (Five.new _ _ _ _ _ _ _ _ _ _).on x1
       simp only [heap_alloc_size] at FZ FB
       have p0 := FA.c0; have p1 := FA.c1; have p2 := FA.c2; have p3 := FA.c3; have p4 := FA.c4; have q0 := FB.c0; have q1 := FB.c1; have q2 := FB.c2; have q3 := FB.c3; have q4 := FB.c4
       have X0 := hide ((Ext.alloc _ _).trans x1); have Z := hide FZ; clear hw1 x1 y1 FA FB FZ)
    | (go_at_call 40; refine Calls.mono (int_any _ _) ?_; rintro e w2 ⟨rfl, hw2⟩; have fZ := (unhide Z).on hw2; have z0 := fZ.c0; have z1 := fZ.c1; have z2 := fZ.c2; have z3 := fZ.c3; have z4 := fZ.c4; have zf := fZ.fz; clear fZ; have W2 := hide hw2; clear hw2))
  exact bodyPost_ret (v := .tuple #[.agg #[.int .i64 1, .int .i64 (wrap64 (n - n')), .complex .f64 0 0, .string ⟨#[]⟩, .slice none 0 0], .int .i64 0]) (by simp [results, Try.results19, go_sem, z0, z1, z2, z3, z4]) rfl (ans5 0 (w.heap.size + 1 + 1) (unhide X0) (by omega) (World.block_lt_of_cell? _ _ (unhide Z).c0) (unhide W2) (rep_wrap _ _ _))

theorem odiv_zero (n n' : Int) (re im re' im' : Nat) (s s' : ByteArray) (a a' : Option Addr) (l c l' c' : Nat) (w : World) (h : n' = 0) :
    Ans 21 #[.agg #[.int .i64 1, .int .i64 n, .complex .f64 re im, .string s, .slice a l c], .agg #[.int .i64 1, .int .i64 n', .complex .f64 re' im', .string s', .slice a' l' c']] w nilP 2 := by
  subst h
  have hb := fun W => both_any 1 1 n 1 0 re im re' im' s s' a a' l c l' c' W
  simp only [decide_true, Bool.and_self] at hb
  have B := hide hb
  clear hb
  unfold Ans
  go_enter Try.func21, Try.ntmps21
  go_wp2_with (first
    | (go_at_call 39; refine Calls.mono (unhide B _) ?_; rintro e w1 ⟨rfl, hw1⟩
       have FZ := (Five.new _ _ _ _ _ _ _ _ _ _).on hw1; have y1 := (Ext.alloc _ _).trans hw1; have FB := (Five.new _ _ _ _ _ _ _ _ _ _).on y1; have x1 := (Ext.alloc _ _).trans y1; have FA := (Five.new _ _ _ _ _ _ _ _ _ _).on x1
       simp only [heap_alloc_size] at FZ FB
       have p0 := FA.c0; have p1 := FA.c1; have p2 := FA.c2; have p3 := FA.c3; have p4 := FA.c4; have q0 := FB.c0; have q1 := FB.c1; have q2 := FB.c2; have q3 := FB.c3; have q4 := FB.c4
       have X0 := hide ((Ext.alloc _ _).trans x1); have Z := hide FZ; clear hw1 x1 y1 FA FB FZ)
    | (go_at_call 12; refine Calls.mono (failed_any _ _) ?_; rintro e w2 ⟨rfl, hw2⟩; have fZ := (unhide Z).on hw2; have z0 := fZ.c0; have z1 := fZ.c1; have z2 := fZ.c2; have z3 := fZ.c3; have z4 := fZ.c4; have zf := fZ.fz; clear fZ; have W2 := hide hw2; clear hw2))
  exact bodyPost_ret (v := .tuple #[nilV, .int .i64 2]) (by simp [results, Try.results21, go_sem, z0, z1, z2, z3, z4]) rfl (ans5 2 (w.heap.size + 1 + 1) (unhide X0) (by omega) (World.block_lt_of_cell? _ _ (unhide Z).c0) (unhide W2) (rep_nil _ _))

theorem omod_zero (n n' : Int) (re im re' im' : Nat) (s s' : ByteArray) (a a' : Option Addr) (l c l' c' : Nat) (w : World) (h : n' = 0) :
    Ans 22 #[.agg #[.int .i64 1, .int .i64 n, .complex .f64 re im, .string s, .slice a l c], .agg #[.int .i64 1, .int .i64 n', .complex .f64 re' im', .string s', .slice a' l' c']] w nilP 2 := by
  subst h
  have hb := fun W => both_any 1 1 n 1 0 re im re' im' s s' a a' l c l' c' W
  simp only [decide_true, Bool.and_self] at hb
  have B := hide hb
  clear hb
  unfold Ans
  go_enter Try.func22, Try.ntmps22
  go_wp2_with (first
    | (go_at_call 39; refine Calls.mono (unhide B _) ?_; rintro e w1 ⟨rfl, hw1⟩
       have FZ := (Five.new _ _ _ _ _ _ _ _ _ _).on hw1; have y1 := (Ext.alloc _ _).trans hw1; have FB := (Five.new _ _ _ _ _ _ _ _ _ _).on y1; have x1 := (Ext.alloc _ _).trans y1; have FA := (Five.new _ _ _ _ _ _ _ _ _ _).on x1
       simp only [heap_alloc_size] at FZ FB
       have p0 := FA.c0; have p1 := FA.c1; have p2 := FA.c2; have p3 := FA.c3; have p4 := FA.c4; have q0 := FB.c0; have q1 := FB.c1; have q2 := FB.c2; have q3 := FB.c3; have q4 := FB.c4
       have X0 := hide ((Ext.alloc _ _).trans x1); have Z := hide FZ; clear hw1 x1 y1 FA FB FZ)
    | (go_at_call 12; refine Calls.mono (failed_any _ _) ?_; rintro e w2 ⟨rfl, hw2⟩; have fZ := (unhide Z).on hw2; have z0 := fZ.c0; have z1 := fZ.c1; have z2 := fZ.c2; have z3 := fZ.c3; have z4 := fZ.c4; have zf := fZ.fz; clear fZ; have W2 := hide hw2; clear hw2))
  exact bodyPost_ret (v := .tuple #[nilV, .int .i64 2]) (by simp [results, Try.results22, go_sem, z0, z1, z2, z3, z4]) rfl (ans5 2 (w.heap.size + 1 + 1) (unhide X0) (by omega) (World.block_lt_of_cell? _ _ (unhide Z).c0) (unhide W2) (rep_nil _ _))

theorem div_ints (n n' : Int) (re im re' im' : Nat) (s s' : ByteArray) (a a' : Option Addr) (l c l' c' : Nat) (w : World) (h : n' ≠ 0) :
    Ans 21 #[.agg #[.int .i64 1, .int .i64 n, .complex .f64 re im, .string s, .slice a l c], .agg #[.int .i64 1, .int .i64 n', .complex .f64 re' im', .string s', .slice a' l' c']] w (it (wrap64 (n.tdiv n'))) 0 := by
  have hb := fun W => both_any 1 1 n 1 n' re im re' im' s s' a a' l c l' c' W
  simp only [decide_true, Bool.and_self] at hb
  have B := hide hb
  clear hb
  unfold Ans
  go_enter Try.func21, Try.ntmps21
  go_wp2_with (first
    | (go_at_call 39; refine Calls.mono (unhide B _) ?_; rintro e w1 ⟨rfl, hw1⟩
       have FZ := (Five.new _ _ _ _ _ _ _ _ _ _).on hw1; have y1 := (Ext.alloc _ _).trans hw1; have FB := (Five.new _ _ _ _ _ _ _ _ _ _).on y1; have x1 := (Ext.alloc _ _).trans y1; have FA := (Five.new _ _ _ _ _ _ _ _ _ _).on x1
       simp only [heap_alloc_size] at FZ FB
       have p0 := FA.c0; have p1 := FA.c1; have p2 := FA.c2; have p3 := FA.c3; have p4 := FA.c4; have q0 := FB.c0; have q1 := FB.c1; have q2 := FB.c2; have q3 := FB.c3; have q4 := FB.c4
       have X0 := hide ((Ext.alloc _ _).trans x1); have Z := hide FZ; clear hw1 x1 y1 FA FB FZ)
    | (go_at_call 40; refine Calls.mono (int_any _ _) ?_; rintro e w2 ⟨rfl, hw2⟩; have fZ := (unhide Z).on hw2; have z0 := fZ.c0; have z1 := fZ.c1; have z2 := fZ.c2; have z3 := fZ.c3; have z4 := fZ.c4; have zf := fZ.fz; clear fZ; have W2 := hide hw2; clear hw2))
  exact bodyPost_ret (v := .tuple #[.agg #[.int .i64 1, .int .i64 (wrap64 (n.tdiv n')), .complex .f64 0 0, .string ⟨#[]⟩, .slice none 0 0], .int .i64 0]) (by simp [results, Try.results21, go_sem, z0, z1, z2, z3, z4]) rfl (ans5 0 (w.heap.size + 1 + 1) (unhide X0) (by omega) (World.block_lt_of_cell? _ _ (unhide Z).c0) (unhide W2) (rep_wrap _ _ _))

theorem mod_ints (n n' : Int) (re im re' im' : Nat) (s s' : ByteArray) (a a' : Option Addr) (l c l' c' : Nat) (w : World) (h : n' ≠ 0) (h1 : -9223372036854775808 ≤ n.tmod n') (h2 : n.tmod n' ≤ 9223372036854775807) :
    Ans 22 #[.agg #[.int .i64 1, .int .i64 n, .complex .f64 re im, .string s, .slice a l c], .agg #[.int .i64 1, .int .i64 n', .complex .f64 re' im', .string s', .slice a' l' c']] w (it (n.tmod n')) 0 := by
  have hb := fun W => both_any 1 1 n 1 n' re im re' im' s s' a a' l c l' c' W
  simp only [decide_true, Bool.and_self] at hb
  have B := hide hb
  clear hb
  unfold Ans
  have H1 := hide h1
  have H2 := hide h2
  clear h1 h2
  go_enter Try.func22, Try.ntmps22
  go_wp2_with (first
    | (go_at_call 39; refine Calls.mono (unhide B _) ?_; rintro e w1 ⟨rfl, hw1⟩
       have FZ := (Five.new _ _ _ _ _ _ _ _ _ _).on hw1; have y1 := (Ext.alloc _ _).trans hw1; have FB := (Five.new _ _ _ _ _ _ _ _ _ _).on y1; have x1 := (Ext.alloc _ _).trans y1; have FA := (Five.new _ _ _ _ _ _ _ _ _ _).on x1
       simp only [heap_alloc_size] at FZ FB
       have p0 := FA.c0; have p1 := FA.c1; have p2 := FA.c2; have p3 := FA.c3; have p4 := FA.c4; have q0 := FB.c0; have q1 := FB.c1; have q2 := FB.c2; have q3 := FB.c3; have q4 := FB.c4
       have X0 := hide ((Ext.alloc _ _).trans x1); have Z := hide FZ; clear hw1 x1 y1 FA FB FZ)
    | (go_at_call 40; refine Calls.mono (int_any _ _) ?_; rintro e w2 ⟨rfl, hw2⟩; have fZ := (unhide Z).on hw2; have z0 := fZ.c0; have z1 := fZ.c1; have z2 := fZ.c2; have z3 := fZ.c3; have z4 := fZ.c4; have zf := fZ.fz; clear fZ; have W2 := hide hw2; clear hw2))
  exact bodyPost_ret (v := .tuple #[.agg #[.int .i64 1, .int .i64 (n.tmod n'), .complex .f64 0 0, .string ⟨#[]⟩, .slice none 0 0], .int .i64 0]) (by simp [results, Try.results22, go_sem, z0, z1, z2, z3, z4]) rfl (ans5 0 (w.heap.size + 1 + 1) (unhide X0) (by omega) (World.block_lt_of_cell? _ _ (unhide Z).c0) (unhide W2) (rep_it _ _ _ (unhide H1) (unhide H2) none 0))

theorem cmpnan_any (n : Int) (w : World) : Calls Try.prog 84 #[.int .i64 n] w fun e w' => e = .returned (.bool false) ∧ w' = w := by
  go_enter Try.func84, Try.ntmps84
  go_wp2_with fail
  go_ret
  exact ⟨rfl, rfl⟩

theorem compare_any (n n' : Int) (w : World) : Calls Try.prog 74 #[.int .i64 n, .int .i64 n'] w fun e w' => e = .returned (.int .i64 (if n < n' then -1 else if n' < n then 1 else 0)) ∧ w' = w := by
  rcases (show n < n' ∨ (n' < n ∧ ¬ n < n') ∨ (¬ n < n' ∧ ¬ n' < n) by omega) with h | ⟨h, h2⟩ | ⟨h2, h⟩
  all_goals
    go_enter Try.func74, Try.ntmps74
    go_wp2_with (go_at_call 84; refine Calls.mono (cmpnan_any _ _) ?_; rintro e w3 ⟨rfl, rfl⟩)
    go_ret
    exact ⟨by simp [*], rfl⟩

theorem less_any (n : Int) (w : World) : Calls Try.prog 53 #[.int .i64 n] w fun e w' => e = .returned (.bool (decide (n < 0))) ∧ w' = w := by
  go_enter Try.func53, Try.ntmps53
  go_wp2_with fail
  go_ret
  exact ⟨rfl, rfl⟩

theorem ordered_ints (n n' : Int) (re im re' im' : Nat) (s s' : ByteArray) (a a' : Option Addr) (l c l' c' : Nat) (w : World) (b : Bool) (hbl : decide (n < n') = b) :
    Ans 52 #[.agg #[.int .i64 1, .int .i64 n, .complex .f64 re im, .string s, .slice a l c], .agg #[.int .i64 1, .int .i64 n', .complex .f64 re' im', .string s', .slice a' l' c'], fnV 53] w (it (if b then 1 else 0)) 0 := by
  have hb := fun W => both_any 1 1 n 1 n' re im re' im' s s' a a' l c l' c' W
  simp only [decide_true, Bool.and_self] at hb
  have B := hide hb
  clear hb
  unfold Ans
  obtain ⟨d, hd⟩ : ∃ d : Int, d = if n < n' then -1 else if n' < n then 1 else 0 := ⟨_, rfl⟩
  have he : decide (d < 0) = b := by
    rw [hd, ← hbl, decide_eq_decide]
    split
    · omega
    · split <;> omega
  have CM := hide (fun W => hd ▸ compare_any n n' W)
  have HE := hide (fun W => he ▸ less_any d W)
  clear hd he hbl
  cases b
  all_goals
    go_enter Try.func52, Try.ntmps52
    go_wp2_with (first
    | (go_at_call 39; refine Calls.mono (unhide B _) ?_; rintro e w1 ⟨rfl, hw1⟩
       have FZ := (Five.new _ _ _ _ _ _ _ _ _ _).on hw1; have y1 := (Ext.alloc _ _).trans hw1; have FB := (Five.new _ _ _ _ _ _ _ _ _ _).on y1; have x1 := (Ext.alloc _ _).trans y1; have FA := (Five.new _ _ _ _ _ _ _ _ _ _).on x1
       simp only [heap_alloc_size] at FZ FB
       have p0 := FA.c0; have p1 := FA.c1; have p2 := FA.c2; have p3 := FA.c3; have p4 := FA.c4; have q0 := FB.c0; have q1 := FB.c1; have q2 := FB.c2; have q3 := FB.c3; have q4 := FB.c4
       have X0 := hide ((Ext.alloc _ _).trans x1); have Z := hide FZ; clear hw1 x1 y1 FA FB FZ)
    | (go_at_call 74; refine Calls.mono (unhide CM _) ?_; rintro e w3 ⟨rfl, rfl⟩)
    | (go_at_call 53; refine Calls.mono (unhide HE _) ?_; rintro e w3 ⟨rfl, rfl⟩)
    | (go_at_call 50; refine Calls.mono (told_any _ _) ?_; rintro e w2 ⟨rfl, hw2⟩; have fZ := (unhide Z).on hw2; have z0 := fZ.c0; have z1 := fZ.c1; have z2 := fZ.c2; have z3 := fZ.c3; have z4 := fZ.c4; have zf := fZ.fz; clear fZ; have W2 := hide hw2; clear hw2))
  · exact bodyPost_ret (v := .tuple #[.agg #[.int .i64 1, .int .i64 0, .complex .f64 0 0, .string ⟨#[]⟩, .slice none 0 0], .int .i64 0]) (by simp [results, Try.results52, go_sem, z0, z1, z2, z3, z4]) rfl (ans5 0 (w.heap.size + 1 + 1) (unhide X0) (by omega) (World.block_lt_of_cell? _ _ (unhide Z).c0) (unhide W2) (rep_it _ _ _ (by decide) (by decide) _ _))
  · exact bodyPost_ret (v := .tuple #[.agg #[.int .i64 1, .int .i64 1, .complex .f64 0 0, .string ⟨#[]⟩, .slice none 0 0], .int .i64 0]) (by simp [results, Try.results52, go_sem, z0, z1, z2, z3, z4]) rfl (ans5 0 (w.heap.size + 1 + 1) (unhide X0) (by omega) (World.block_lt_of_cell? _ _ (unhide Z).c0) (unhide W2) (rep_it _ _ _ (by decide) (by decide) _ _))

theorem below_ints (n n' : Int) (re im re' im' : Nat) (s s' : ByteArray) (a a' : Option Addr) (l c l' c' : Nat) (w : World) (b : Bool) (hbl : decide (n < n') = b) :
    Ans 25 #[.agg #[.int .i64 1, .int .i64 n, .complex .f64 re im, .string s, .slice a l c], .agg #[.int .i64 1, .int .i64 n', .complex .f64 re' im', .string s', .slice a' l' c']] w (it (if b then 1 else 0)) 0 := by
  have hb := fun W => ordered_ints n n' re im re' im' s s' a a' l c l' c' W b hbl
  unfold Ans at hb ⊢
  generalize (if b = true then (1 : Int) else 0) = t at hb ⊢
  have B := hide hb
  clear hb hbl
  go_enter Try.func25, Try.ntmps25
  go_wp2_with (go_at_call 52; refine Calls.mono (unhide B _) ?_; rintro e w2 ⟨r, rfl, hr, hw2⟩; rw [it, Rep] at hr; obtain ⟨ay, cy, rfl, hby, hly⟩ := hr; have fZ := (Five.new _ _ _ _ _ _ _ _ _ _).on hw2; simp only [heap_alloc_size] at fZ; have z0 := fZ.c0; have z1 := fZ.c1; have z2 := fZ.c2; have z3 := fZ.c3; have z4 := fZ.c4; have zf := fZ.fz; clear fZ; have BY := hide hby; clear hby hly; have W2 := hide hw2; clear hw2)
  exact bodyPost_ret (v := .tuple #[.agg #[.int .i64 1, .int .i64 t, .complex .f64 0 0, .string ⟨#[]⟩, .slice ay 0 cy], .int .i64 0]) (by simp [results, Try.results25, go_sem, z0, z1, z2, z3, z4]) rfl (ans5 0 (w.heap.size + 1 + 1) (((Ext.alloc _ _).trans (Ext.alloc _ _)).trans (Ext.alloc _ _)) (by omega) (by simp) (unhide W2) (by rw [it, Rep]; exact ⟨ay, cy, rfl, unhide BY, by simp [RepL]⟩))

end Go.Proofs.Ytbkncdjmodeabaa
