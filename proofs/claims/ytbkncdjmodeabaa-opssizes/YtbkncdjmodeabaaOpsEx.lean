/- What the document fixes of ops: the law's own test of the two examples. -/
import Derived.Test.YtbkncdjmodeabaaOpsDo
import Derived.Test.YtbkncdjmodeabaaArith
set_option linter.unusedSimpArgs false
set_option maxRecDepth 10000
namespace Go.Proofs.Ytbkncdjmodeabaa
open Go.RowKit

theorem valcx_any (re im : Nat) (w : World) (hre : re < 18446744073709551616) (him : im < 18446744073709551616) :
    Calls Try.prog 59 #[.complex .f64 re im] w fun e w' => ∃ v', e = .returned v' ∧ Rep w' (Fresh w w') (cp (.mk 2 0 re im ⟨#[]⟩ [])) v' ∧ Ext w w' := by
  have hc := fun w' => copy_any (.mk 2 0 re im ⟨#[]⟩ []) _ w' (rep_leaf w' _ (bd0 (by decide) (by decide) (by decide) (by decide) hre him (by decide)))
  obtain ⟨q, hq2⟩ : ∃ q, q = cp (.mk 2 0 re im ⟨#[]⟩ []) := ⟨_, rfl⟩
  rw [← hq2] at hc ⊢
  clear hq2
  cases q with
  | mk k' n' re' im' s' l' =>
  have C := hide hc
  clear hc
  go_enter Try.func59, Try.ntmps59
  go_wp2_with (go_at_call 58; refine Calls.mono (unhide C _) ?_; rintro e w1 ⟨v2, rfl, hr2, hw1⟩; rw [Rep] at hr2; obtain ⟨a2, c2, rfl, hb2, hl2⟩ := hr2; have hx0 := hw1.box 0 rfl; have hx1 := hw1.box 1 rfl; have hx2 := hw1.box 2 rfl; have hx3 := hw1.box 3 rfl; have hx4 := hw1.box 4 rfl; have hf := hw1.boxF)
  have hE := (Ext.alloc w _).trans hw1
  have hE5 := ((((hE.set (a := ⟨w.heap.size, 0, none⟩) (by simp) (.int .i64 k')).set (a := ⟨w.heap.size, 1, none⟩) (by simp) (.int .i64 n')).set (a := ⟨w.heap.size, 2, none⟩) (by simp) (.complex .f64 re' im')).set (a := ⟨w.heap.size, 3, none⟩) (by simp) (.string s')).set (a := ⟨w.heap.size, 4, none⟩) (by simp) (.slice a2 l'.length c2)
  refine bodyPost_ret (v := .agg #[.int .i64 k', .int .i64 n', .complex .f64 re' im', .string s', .slice a2 l'.length c2]) (by simp [results, Try.results59, go_sem, hx0, hx1, hx2, hx3, hx4]) rfl ⟨_, rfl, ?_, hE5⟩
  rw [Rep]
  refine ⟨a2, c2, rfl, hb2, RepL.to (fun b hb => ⟨⟨?fa, ?fb⟩, ?fc⟩) _ _ hl2⟩
  case fa => have := hb.1; simp at this; omega
  case fb =>
    simp only [World.setCell, Array.size_modify]
    exact hb.2
  case fc =>
    have hne : b ≠ w.heap.size := by have := hb.1; simp at this; omega
    rw [Below.heap_setCell _ _ _ _ hne, Below.heap_setCell _ _ _ _ hne, Below.heap_setCell _ _ _ _ hne, Below.heap_setCell _ _ _ _ hne, Below.heap_setCell _ _ _ _ hne]


theorem Ext.drewN {a w : World} (h : Ext a w) (n : Nat) : Ext a (w.drewN n) := h.trans ⟨rfl, rfl, rfl, Nat.le_refl _, fun _ _ => rfl⟩

theorem ex_cp : cp (PV.mk 2 0 0 4611686018427387904 ⟨#[]⟩ []) = (PV.mk 2 0 0 4611686018427387904 ⟨#[]⟩ []) := by
  have h : okv (PV.mk 2 0 0 4611686018427387904 ⟨#[]⟩ []) = true := by
    rw [okv, sz, if_neg (by decide), if_neg (by decide), wfv, wfvL, unused, empty_list]
    have e : okB 0 4611686018427387904 = true := by kernel_rfl
    rw [e]
    rfl
  rw [cp, tk, h, if_pos rfl, norm, if_neg (by decide), if_pos rfl]

theorem mul_ex (w : World) : Calls Try.prog 48 #[.complex .f64 (floatOfInt .f64 2) (floatOfInt .f64 0), .complex .f64 0 4607182418800017408] w fun e w' => e = .returned (.tuple #[.complex .f64 0 4611686018427387904, .int .i64 0]) ∧ Ext w w' := by
  have e2 : floatOfInt .f64 2 = 4611686018427387904 := by kernel_rfl
  have e0 : floatOfInt .f64 0 = 0 := by kernel_rfl
  rw [e2, e0]
  refine (mul_any 4611686018427387904 0 0 4607182418800017408 w (by unfold Wd; decide) (by unfold Wd; decide) (by unfold Wd; decide) (by unfold Wd; decide)).mono ?_
  rintro e w' ⟨rfl, n, rfl⟩
  refine ⟨ret_cx ?_ ?_ ?_, Ext.drewN (Ext.refl w) n⟩
  · kernel_rfl
  · kernel_rfl
  · kernel_rfl

set_option maxHeartbeats 4000000 in
theorem parts_ex (n' : Int) (re im : Nat) (s s' : ByteArray) (a a' : Option Addr) (l c l' c' : Nat) (w : World) :
    Ans 45 #[fnV 48, .agg #[.int .i64 1, .int .i64 2, .complex .f64 re im, .string s, .slice a l c], .agg #[.int .i64 2, .int .i64 n', .complex .f64 0 4607182418800017408, .string s', .slice a' l' c']] w (PV.mk 2 0 0 4611686018427387904 ⟨#[]⟩ []) 0 := by
  have NA := hide (fun W => number_int 2 re im s a l c W)
  have NB := hide (fun W => number_cx n' 0 4607182418800017408 s' a' l' c' W)
  have MU := hide (fun W => mul_ex W)
  have CX := hide (fun W => valcx_any 0 4611686018427387904 W (by decide) (by decide))
  rw [ex_cp] at CX
  unfold Ans
  go_enter Try.func45, Try.ntmps45
  go_wp2_with (first
    | (go_at_call 65; have FA := (unhide A1); refine Calls.mono (unhide NB _) ?_; rintro e w2 ⟨rfl, hw2⟩; have X2 := hide ((unhide X1).trans hw2); have Z2 := hide ((unhide Z1).on hw2); clear hw2 FA)
    | (go_at_call 65; refine Calls.mono (unhide NA _) ?_; rintro e w1 ⟨rfl, hw1⟩
       have FZ := (Five.new _ _ _ _ _ _ _ _ _ _).on hw1; have y1 := (Ext.alloc _ _).trans hw1; have FB := (Five.new _ _ _ _ _ _ _ _ _ _).on y1; have x1 := (Ext.alloc _ _).trans y1; have FA := (Five.new _ _ _ _ _ _ _ _ _ _).on x1
       simp only [heap_alloc_size] at FZ FB
       have p0 := FA.c0; have p1 := FA.c1; have p2 := FA.c2; have p3 := FA.c3; have p4 := FA.c4; have q0 := FB.c0; have q1 := FB.c1; have q2 := FB.c2; have q3 := FB.c3; have q4 := FB.c4
       have X1 := hide ((Ext.alloc _ _).trans x1); have A1 := hide FA; have Z1 := hide FZ; clear hw1 x1 y1 FA FB FZ)
    | (go_at_call 48; refine Calls.mono (unhide MU _) ?_; rintro e w3 ⟨rfl, hw3⟩; have W3 := hide hw3; clear hw3)
    | (go_at_call 59; refine Calls.mono (unhide CX _) ?_; rintro e w7 ⟨v7, rfl, hr7, hw7⟩; rw [Rep] at hr7; obtain ⟨ay, cy, rfl, hby, -⟩ := hr7; have BY := hide hby; have hw37 := (unhide W3).trans hw7; have FZ := (unhide Z2).on hw37; have z0 := FZ.c0; have z1 := FZ.c1; have z2 := FZ.c2; have z3 := FZ.c3; have z4 := FZ.c4; have zf := FZ.fz; clear FZ; have W8 := hide hw37; clear hw7 hby hw37))
  exact bodyPost_ret (v := .tuple #[.agg #[.int .i64 2, .int .i64 0, .complex .f64 0 4611686018427387904, .string ⟨#[]⟩, .slice ay 0 cy], .int .i64 0]) (by simp [results, Try.results45, go_sem, z0, z1, z2, z3, z4]) rfl (ans5 0 (w.heap.size + 1 + 1) (unhide X2) (by omega) (World.block_lt_of_cell? _ _ (unhide Z2).c0) (unhide W8) (by rw [Rep]; exact ⟨ay, cy, rfl, unhide BY, by simp [RepL]⟩))

set_option maxHeartbeats 4000000 in
theorem mul_answers (n' : Int) (re im : Nat) (s s' : ByteArray) (a a' : Option Addr) (l c l' c' : Nat) (w : World) :
    Ans 20 #[.agg #[.int .i64 1, .int .i64 2, .complex .f64 re im, .string s, .slice a l c], .agg #[.int .i64 2, .int .i64 n', .complex .f64 0 4607182418800017408, .string s', .slice a' l' c']] w (PV.mk 2 0 0 4611686018427387904 ⟨#[]⟩ []) 0 := by
  have B := hide (fun kd W => both_any kd 1 2 2 n' re im 0 4607182418800017408 s s' a a' l c l' c' W)
  have WPC := hide (fun W => parts_ex n' re im s s' a a' l c l' c' W)
  unfold Ans at WPC ⊢
  go_enter Try.func20, Try.ntmps20
  go_wp2_with (first
    | (go_at_call 39; refine Calls.mono (unhide B _ _) ?_; rintro e w1 ⟨rfl, hw1⟩
       have FZ := (Five.new _ _ _ _ _ _ _ _ _ _).on hw1; have y1 := (Ext.alloc _ _).trans hw1; have FB := (Five.new _ _ _ _ _ _ _ _ _ _).on y1; have x1 := (Ext.alloc _ _).trans y1; have FA := (Five.new _ _ _ _ _ _ _ _ _ _).on x1
       simp only [heap_alloc_size] at FZ FB
       have p0 := FA.c0; have p1 := FA.c1; have p2 := FA.c2; have p3 := FA.c3; have p4 := FA.c4; have q0 := FB.c0; have q1 := FB.c1; have q2 := FB.c2; have q3 := FB.c3; have q4 := FB.c4
       have X1 := hide ((Ext.alloc _ _).trans x1); have A1 := hide FA; have B1 := hide FB; have Z1 := hide FZ; clear hw1 x1 y1 FA FB FZ)
    | (go_at_call 45; refine Calls.mono (unhide WPC _) ?_; rintro e w7 ⟨r, rfl, hr, hw7⟩; rw [Rep] at hr; obtain ⟨ay, cy, rfl, hby, -⟩ := hr; have BY := hide hby; have FZ := (unhide Z1).on hw7; have z0 := FZ.c0; have z1 := FZ.c1; have z2 := FZ.c2; have z3 := FZ.c3; have z4 := FZ.c4; have zf := FZ.fz; clear FZ; have W8 := hide hw7; clear hw7 hby))
  exact bodyPost_ret (v := .tuple #[.agg #[.int .i64 2, .int .i64 0, .complex .f64 0 4611686018427387904, .string ⟨#[]⟩, .slice ay 0 cy], .int .i64 0]) (by simp [results, Try.results20, go_sem, z0, z1, z2, z3, z4]) rfl (ans5 0 (w.heap.size + 1 + 1) (unhide X1) (by omega) (World.block_lt_of_cell? _ _ (unhide Z1).c0) (unhide W8) (by rw [Rep]; exact ⟨ay, cy, rfl, unhide BY, by simp [RepL]⟩))

set_option maxHeartbeats 4000000 in
theorem get_text (n : Int) (re im re' im' : Nat) (s' : ByteArray) (a a' : Option Addr) (l c l' c' : Nat) (w : World) :
    Ans 29 #[.agg #[.int .i64 3, .int .i64 n, .complex .f64 re im, .string ⟨#[97, 98]⟩, .slice a l c], .agg #[.int .i64 1, .int .i64 1, .complex .f64 re' im', .string s', .slice a' l' c']] w (tx ⟨#[98]⟩) 0 := by
  have TX := hide (fun W => valtext_any ⟨#[98]⟩ W (by decide))
  rw [textP_eq, if_pos (by decide), tx] at TX
  have LN := hide (fun W => length_text n re im ⟨#[97, 98]⟩ a l c W)
  rw [show ((ByteArray.mk #[97, 98]).size : Int) = 2 from rfl] at LN
  unfold Ans
  go_enter Try.func29, Try.ntmps29
  go_wp2_with (first
    | (go_at_call 57; refine Calls.mono (unhide LN _) ?_; rintro e w1 ⟨rfl, hw1⟩
       have FZ := (Five.new _ _ _ _ _ _ _ _ _ _).on hw1; have y1 := (Ext.alloc _ _).trans hw1; have FB := (Five.new _ _ _ _ _ _ _ _ _ _).on y1; have x1 := (Ext.alloc _ _).trans y1; have FA := (Five.new _ _ _ _ _ _ _ _ _ _).on x1
       simp only [heap_alloc_size] at FZ FB
       have p0 := FA.c0; have p1 := FA.c1; have p2 := FA.c2; have p3 := FA.c3; have p4 := FA.c4; have q0 := FB.c0; have q1 := FB.c1; have q2 := FB.c2; have q3 := FB.c3; have q4 := FB.c4
       have X1 := hide ((Ext.alloc _ _).trans x1); have A1 := hide FA; have B1 := hide FB; have Z1 := hide FZ; clear hw1 x1 y1 FA FB FZ)
    | (go_at_call 42; refine Calls.mono (unhide TX _) ?_; rintro e w7 ⟨v7, rfl, hr7, hw7⟩; rw [Rep] at hr7; obtain ⟨ay, cy, rfl, hby, -⟩ := hr7; have BY := hide hby; have FZ := (unhide Z1).on hw7; have z0 := FZ.c0; have z1 := FZ.c1; have z2 := FZ.c2; have z3 := FZ.c3; have z4 := FZ.c4; have zf := FZ.fz; clear FZ; have W8 := hide hw7; clear hw7 hby))
  exact bodyPost_ret (v := .tuple #[.agg #[.int .i64 3, .int .i64 0, .complex .f64 0 0, .string ⟨#[98]⟩, .slice ay 0 cy], .int .i64 0]) (by simp [results, Try.results29, go_sem, z0, z1, z2, z3, z4]) rfl (ans5 0 (w.heap.size + 1 + 1) (unhide X1) (by omega) (World.block_lt_of_cell? _ _ (unhide Z1).c0) (unhide W8) (by rw [tx, Rep]; exact ⟨ay, cy, rfl, unhide BY, by simp [RepL]⟩))

theorem rint_any (n : Int) (w : World) : Calls Try.prog 5 #[.int .i64 n] w fun e w' => e = .returned (.agg #[.int .i64 1, .int .i64 n, .complex .f64 0 0, .string ⟨#[]⟩, .slice none 0 0]) ∧ Ext w w' := by
  go_enter Try.func5, Try.ntmps5
  go_wp2_with fail
  go_returns
  exact ⟨rfl, Ext.alloc _ _⟩

theorem rcx_any (re im : Nat) (w : World) : Calls Try.prog 15 #[.complex .f64 re im] w fun e w' => e = .returned (.agg #[.int .i64 2, .int .i64 0, .complex .f64 re im, .string ⟨#[]⟩, .slice none 0 0]) ∧ Ext w w' := by
  go_enter Try.func15, Try.ntmps15
  go_wp2_with fail
  go_returns
  exact ⟨rfl, Ext.alloc _ _⟩

theorem rtext_any (s : ByteArray) (w : World) : Calls Try.prog 10 #[.string s] w fun e w' => e = .returned (.agg #[.int .i64 3, .int .i64 0, .complex .f64 0 0, .string s, .slice none 0 0]) ∧ Ext w w' := by
  go_enter Try.func10, Try.ntmps10
  go_wp2_with fail
  go_returns
  exact ⟨rfl, Ext.alloc _ _⟩

theorem rlist_any (a : Option Addr) (l c : Nat) (w : World) : Calls Try.prog 8 #[.slice a l c] w fun e w' => e = .returned (.agg #[.int .i64 4, .int .i64 0, .complex .f64 0 0, .string ⟨#[]⟩, .slice a l c]) ∧ Ext w w' := by
  go_enter Try.func8, Try.ntmps8
  go_wp2_with fail
  go_returns
  exact ⟨rfl, Ext.alloc _ _⟩

theorem bin_add (n n' : Int) (a a' : Option Addr) (c c' : Nat) (w : World) (h1 : -9223372036854775808 ≤ n) (h2 : n ≤ 9223372036854775807) (h3 : -9223372036854775808 ≤ n') (h4 : n' ≤ 9223372036854775807) :
    Ans 6 #[.int .i64 1, .agg #[.int .i64 1, .int .i64 n, .complex .f64 0 0, .string ⟨#[]⟩, .slice a 0 c], .agg #[.int .i64 1, .int .i64 n', .complex .f64 0 0, .string ⟨#[]⟩, .slice a' 0 c']] w (it (wrap64 (n + n'))) 0 := by
  refine binary_any 1 18 (by decide) (by decide) (fun W => by kernel_rfl) (fun v u W => by kernel_rfl) (it n) (it n') _ _ w (rep_it _ _ _ h1 h2 _ _) (rep_it _ _ _ h3 h4 _ _) _ _ fun W _ => ?_
  rw [okv_it, okv_it, if_pos rfl, if_pos rfl]
  exact add_ints n n' 0 0 0 0 ⟨#[]⟩ ⟨#[]⟩ a a' 0 c 0 c' W

theorem bin_sub (n n' : Int) (a a' : Option Addr) (c c' : Nat) (w : World) (h1 : -9223372036854775808 ≤ n) (h2 : n ≤ 9223372036854775807) (h3 : -9223372036854775808 ≤ n') (h4 : n' ≤ 9223372036854775807) :
    Ans 6 #[.int .i64 2, .agg #[.int .i64 1, .int .i64 n, .complex .f64 0 0, .string ⟨#[]⟩, .slice a 0 c], .agg #[.int .i64 1, .int .i64 n', .complex .f64 0 0, .string ⟨#[]⟩, .slice a' 0 c']] w (it (wrap64 (n - n'))) 0 := by
  refine binary_any 2 19 (by decide) (by decide) (fun W => by kernel_rfl) (fun v u W => by kernel_rfl) (it n) (it n') _ _ w (rep_it _ _ _ h1 h2 _ _) (rep_it _ _ _ h3 h4 _ _) _ _ fun W _ => ?_
  rw [okv_it, okv_it, if_pos rfl, if_pos rfl]
  exact sub_ints n n' 0 0 0 0 ⟨#[]⟩ ⟨#[]⟩ a a' 0 c 0 c' W

theorem bin_divz (n n' : Int) (a a' : Option Addr) (c c' : Nat) (w : World) (h1 : -9223372036854775808 ≤ n) (h2 : n ≤ 9223372036854775807) (h3 : -9223372036854775808 ≤ n') (h4 : n' ≤ 9223372036854775807) (h : n' = 0) :
    Ans 6 #[.int .i64 4, .agg #[.int .i64 1, .int .i64 n, .complex .f64 0 0, .string ⟨#[]⟩, .slice a 0 c], .agg #[.int .i64 1, .int .i64 n', .complex .f64 0 0, .string ⟨#[]⟩, .slice a' 0 c']] w nilP 2 := by
  refine binary_any 4 21 (by decide) (by decide) (fun W => by kernel_rfl) (fun v u W => by kernel_rfl) (it n) (it n') _ _ w (rep_it _ _ _ h1 h2 _ _) (rep_it _ _ _ h3 h4 _ _) _ _ fun W _ => ?_
  rw [okv_it, okv_it, if_pos rfl, if_pos rfl]
  exact odiv_zero n n' 0 0 0 0 ⟨#[]⟩ ⟨#[]⟩ a a' 0 c 0 c' W h

theorem bin_div (n n' : Int) (a a' : Option Addr) (c c' : Nat) (w : World) (h1 : -9223372036854775808 ≤ n) (h2 : n ≤ 9223372036854775807) (h3 : -9223372036854775808 ≤ n') (h4 : n' ≤ 9223372036854775807) (h : n' ≠ 0) :
    Ans 6 #[.int .i64 4, .agg #[.int .i64 1, .int .i64 n, .complex .f64 0 0, .string ⟨#[]⟩, .slice a 0 c], .agg #[.int .i64 1, .int .i64 n', .complex .f64 0 0, .string ⟨#[]⟩, .slice a' 0 c']] w (it (wrap64 (n.tdiv n'))) 0 := by
  refine binary_any 4 21 (by decide) (by decide) (fun W => by kernel_rfl) (fun v u W => by kernel_rfl) (it n) (it n') _ _ w (rep_it _ _ _ h1 h2 _ _) (rep_it _ _ _ h3 h4 _ _) _ _ fun W _ => ?_
  rw [okv_it, okv_it, if_pos rfl, if_pos rfl]
  exact div_ints n n' 0 0 0 0 ⟨#[]⟩ ⟨#[]⟩ a a' 0 c 0 c' W h

theorem bin_modz (n n' : Int) (a a' : Option Addr) (c c' : Nat) (w : World) (h1 : -9223372036854775808 ≤ n) (h2 : n ≤ 9223372036854775807) (h3 : -9223372036854775808 ≤ n') (h4 : n' ≤ 9223372036854775807) (h : n' = 0) :
    Ans 6 #[.int .i64 5, .agg #[.int .i64 1, .int .i64 n, .complex .f64 0 0, .string ⟨#[]⟩, .slice a 0 c], .agg #[.int .i64 1, .int .i64 n', .complex .f64 0 0, .string ⟨#[]⟩, .slice a' 0 c']] w nilP 2 := by
  refine binary_any 5 22 (by decide) (by decide) (fun W => by kernel_rfl) (fun v u W => by kernel_rfl) (it n) (it n') _ _ w (rep_it _ _ _ h1 h2 _ _) (rep_it _ _ _ h3 h4 _ _) _ _ fun W _ => ?_
  rw [okv_it, okv_it, if_pos rfl, if_pos rfl]
  exact omod_zero n n' 0 0 0 0 ⟨#[]⟩ ⟨#[]⟩ a a' 0 c 0 c' W h

theorem bin_mod (n n' : Int) (a a' : Option Addr) (c c' : Nat) (w : World) (h1 : -9223372036854775808 ≤ n) (h2 : n ≤ 9223372036854775807) (h3 : -9223372036854775808 ≤ n') (h4 : n' ≤ 9223372036854775807) (h : n' ≠ 0) (h5 : -9223372036854775808 ≤ n.tmod n') (h6 : n.tmod n' ≤ 9223372036854775807) :
    Ans 6 #[.int .i64 5, .agg #[.int .i64 1, .int .i64 n, .complex .f64 0 0, .string ⟨#[]⟩, .slice a 0 c], .agg #[.int .i64 1, .int .i64 n', .complex .f64 0 0, .string ⟨#[]⟩, .slice a' 0 c']] w (it (n.tmod n')) 0 := by
  refine binary_any 5 22 (by decide) (by decide) (fun W => by kernel_rfl) (fun v u W => by kernel_rfl) (it n) (it n') _ _ w (rep_it _ _ _ h1 h2 _ _) (rep_it _ _ _ h3 h4 _ _) _ _ fun W _ => ?_
  rw [okv_it, okv_it, if_pos rfl, if_pos rfl]
  exact mod_ints n n' 0 0 0 0 ⟨#[]⟩ ⟨#[]⟩ a a' 0 c 0 c' W h h5 h6

theorem bin_lt (n n' : Int) (a a' : Option Addr) (c c' : Nat) (w : World) (h1 : -9223372036854775808 ≤ n) (h2 : n ≤ 9223372036854775807) (h3 : -9223372036854775808 ≤ n') (h4 : n' ≤ 9223372036854775807) (b : Bool) (hb : decide (n < n') = b) :
    Ans 6 #[.int .i64 8, .agg #[.int .i64 1, .int .i64 n, .complex .f64 0 0, .string ⟨#[]⟩, .slice a 0 c], .agg #[.int .i64 1, .int .i64 n', .complex .f64 0 0, .string ⟨#[]⟩, .slice a' 0 c']] w (it (if b then 1 else 0)) 0 := by
  refine binary_any 8 25 (by decide) (by decide) (fun W => by kernel_rfl) (fun v u W => by kernel_rfl) (it n) (it n') _ _ w (rep_it _ _ _ h1 h2 _ _) (rep_it _ _ _ h3 h4 _ _) _ _ fun W _ => ?_
  rw [okv_it, okv_it, if_pos rfl, if_pos rfl]
  exact below_ints n n' 0 0 0 0 ⟨#[]⟩ ⟨#[]⟩ a a' 0 c 0 c' W b hb

theorem okv_ex : okv (PV.mk 2 0 0 4607182418800017408 ⟨#[]⟩ []) = true := by
  rw [okv, sz, if_neg (by decide), if_neg (by decide), wfv, wfvL, unused, empty_list]
  have e : okB 0 4607182418800017408 = true := by kernel_rfl
  rw [e]
  rfl

theorem bin_mul_ex (w : World) :
    Ans 6 #[.int .i64 3, .agg #[.int .i64 1, .int .i64 2, .complex .f64 0 0, .string ⟨#[]⟩, .slice none 0 0], .agg #[.int .i64 2, .int .i64 0, .complex .f64 0 4607182418800017408, .string ⟨#[]⟩, .slice none 0 0]] w (PV.mk 2 0 0 4611686018427387904 ⟨#[]⟩ []) 0 := by
  refine binary_any 3 20 (by decide) (by decide) (fun W => by kernel_rfl) (fun v u W => by kernel_rfl) (it 2) (PV.mk 2 0 0 4607182418800017408 ⟨#[]⟩ []) _ _ w (rep_it _ _ _ (by decide) (by decide) _ _) (rep_leaf _ _ (bd0 (by decide) (by decide) (by decide) (by decide) (by decide) (by decide) (by decide))) _ _ fun W _ => ?_
  rw [okv_it, okv_ex, if_pos rfl, if_pos rfl]
  exact mul_answers 0 0 0 ⟨#[]⟩ ⟨#[]⟩ none none 0 0 0 0 W

theorem bin_get_ex (w : World) :
    Ans 6 #[.int .i64 12, .agg #[.int .i64 3, .int .i64 0, .complex .f64 0 0, .string ⟨#[97, 98]⟩, .slice none 0 0], .agg #[.int .i64 1, .int .i64 1, .complex .f64 0 0, .string ⟨#[]⟩, .slice none 0 0]] w (tx ⟨#[98]⟩) 0 := by
  refine binary_any 12 29 (by decide) (by decide) (fun W => by kernel_rfl) (fun v u W => by kernel_rfl) (tx ⟨#[97, 98]⟩) (it 1) _ _ w (rep_tx _ _ (by decide)) (rep_it _ _ _ (by decide) (by decide) _ _) _ _ fun W _ => ?_
  rw [okv_it, okv_tx, if_pos rfl, if_pos (by decide)]
  exact get_text 0 0 0 0 0 ⟨#[]⟩ none none 0 0 0 0 W

end Go.Proofs.Ytbkncdjmodeabaa
