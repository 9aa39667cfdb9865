/- The ops on texts and lists: one behind the other, a value behind a list, what stands at a place, how many there are. -/
import Derived.Test.YtbkncdjmodeabaaOpsInt
import Derived.Test.YtbkncdjmodeabaaOpsCat
set_option linter.unusedSimpArgs false
set_option maxRecDepth 10000
namespace Go.Proofs.Ytbkncdjmodeabaa
open Go.RowKit

theorem rep_tx (w : World) (F : Nat → Prop) {s : ByteArray} {a : Option Addr} {c : Nat} (hs : s.size ≤ 140737488355328) : Rep w F (tx s) (.agg #[.int .i64 3, .int .i64 0, .complex .f64 0 0, .string s, .slice a 0 c]) := by
  rw [tx, Rep]
  exact ⟨a, c, rfl, ⟨by decide, by decide, by decide, by decide, by decide, by decide, hs, by decide, Nat.zero_le _⟩, by simp [RepL]⟩

/-- A list made in memory of its own stays so in a world that has grown, and is new to an elder world too. -/
theorem rep_fresh {w3 w6 w7 w8 : World} {m : List PV} {ay : Option Addr} {cy : Nat} (hb : Bd 4 0 0 0 ⟨#[]⟩ m.length cy) (hl : RepL w7 (Fresh w6 w7) m ay) (h36 : Ext w3 w6) (h78 : Ext w7 w8) :
    Rep w8 (Fresh w3 w8) (ls m) (.agg #[.int .i64 4, .int .i64 0, .complex .f64 0 0, .string ⟨#[]⟩, .slice ay m.length cy]) := by
  rw [ls, Rep]
  exact ⟨ay, cy, rfl, hb, RepL.to (fun b hb => ⟨⟨Nat.le_trans h36.le hb.1, Nat.lt_of_lt_of_le hb.2 h78.le⟩, h78.block b hb.2⟩) _ _ hl⟩

set_option maxHeartbeats 4000000 in
theorem add_texts (n n' : Int) (re im re' im' : Nat) (s s' : ByteArray) (a a' : Option Addr) (l c l' c' : Nat) (w : World) (h : s.size + s'.size ≤ 999) :
    Ans 18 #[.agg #[.int .i64 3, .int .i64 n, .complex .f64 re im, .string s, .slice a l c], .agg #[.int .i64 3, .int .i64 n', .complex .f64 re' im', .string s', .slice a' l' c']] w (tx (s ++ s')) 0 := by
  have B := hide (fun kd W => both_any kd 3 n 3 n' re im re' im' s s' a a' l c l' c' W)
  have TX := hide (fun W => valtext_any (s ++ s') W (by rw [ByteArray.size_append]; omega))
  rw [textP_eq, ByteArray.size_append, if_pos h, tx] at TX
  have SZ : Hd ((s ++ s').size ≤ 140737488355328) := by show (s ++ s').size ≤ _; rw [ByteArray.size_append]; omega
  unfold Ans
  go_enter Try.func18, Try.ntmps18
  go_wp2_with (first
    | (go_at_call 39; refine Calls.mono (unhide B _ _) ?_; rintro e w2 ⟨rfl, hw2⟩
       have FA := (unhide A1).on hw2; have FB := (unhide B1).on hw2; have FZ := (unhide Z1).on hw2
       clear p0 p1 p2 p3 p4 q0 q1 q2 q3 q4; have p0 := FA.c0; have p1 := FA.c1; have p2 := FA.c2; have p3 := FA.c3; have p4 := FA.c4; have q0 := FB.c0; have q1 := FB.c1; have q2 := FB.c2; have q3 := FB.c3; have q4 := FB.c4
       have X2 := hide ((unhide X1).trans hw2); have A2 := hide FA; have B2 := hide FB; have Z2 := hide FZ; clear hw2 FA FB FZ)
    | (go_at_call 39; refine Calls.mono (unhide B _ _) ?_; rintro e w1 ⟨rfl, hw1⟩
       have FZ := (Five.new _ _ _ _ _ _ _ _ _ _).on hw1; have y1 := (Ext.alloc _ _).trans hw1; have FB := (Five.new _ _ _ _ _ _ _ _ _ _).on y1; have x1 := (Ext.alloc _ _).trans y1; have FA := (Five.new _ _ _ _ _ _ _ _ _ _).on x1
       simp only [heap_alloc_size] at FZ FB
       have p0 := FA.c0; have p1 := FA.c1; have p2 := FA.c2; have p3 := FA.c3; have p4 := FA.c4; have q0 := FB.c0; have q1 := FB.c1; have q2 := FB.c2; have q3 := FB.c3; have q4 := FB.c4
       have X1 := hide ((Ext.alloc _ _).trans x1); have A1 := hide FA; have B1 := hide FB; have Z1 := hide FZ; clear hw1 x1 y1 FA FB FZ)
    | (go_at_call 42; refine Calls.mono (unhide TX _) ?_; rintro e w7 ⟨v7, rfl, hr7, hw7⟩; rw [Rep] at hr7; obtain ⟨ay, cy, rfl, -, -⟩ := hr7; have W7 := hide hw7; clear hw7)
    | (go_at_call 41; refine Calls.mono (done_any _ _ _ _ _ _ _ _ _) ?_; rintro e w8 ⟨rfl, hw8⟩; rw [if_neg (by decide)]; have hw78 := (unhide W7).trans hw8; have FZ := (unhide Z2).on hw78; have z0 := FZ.c0; have z1 := FZ.c1; have z2 := FZ.c2; have z3 := FZ.c3; have z4 := FZ.c4; have zf := FZ.fz; clear FZ; have W8 := hide hw78; clear hw78))
  exact bodyPost_ret (v := .tuple #[.agg #[.int .i64 3, .int .i64 0, .complex .f64 0 0, .string (s ++ s'), .slice ay 0 cy], .int .i64 0]) (by simp [results, Try.results18, go_sem, z0, z1, z2, z3, z4]) rfl (ans5 0 (w.heap.size + 1 + 1) (unhide X2) (by omega) (World.block_lt_of_cell? _ _ (unhide Z2).c0) (unhide W8) (rep_tx _ _ (unhide SZ)))

set_option maxHeartbeats 4000000 in
theorem add_texts_big (n n' : Int) (re im re' im' : Nat) (s s' : ByteArray) (a a' : Option Addr) (l c l' c' : Nat) (w : World) (hs : s.size ≤ 1000) (hs' : s'.size ≤ 1000) (h : ¬ s.size + s'.size ≤ 999) :
    Ans 18 #[.agg #[.int .i64 3, .int .i64 n, .complex .f64 re im, .string s, .slice a l c], .agg #[.int .i64 3, .int .i64 n', .complex .f64 re' im', .string s', .slice a' l' c']] w nilP 4 := by
  have B := hide (fun kd W => both_any kd 3 n 3 n' re im re' im' s s' a a' l c l' c' W)
  have TX := hide (fun W => valtext_any (s ++ s') W (by rw [ByteArray.size_append]; omega))
  rw [textP_eq, ByteArray.size_append, if_neg h, nilP] at TX
  unfold Ans
  go_enter Try.func18, Try.ntmps18
  go_wp2_with (first
    | (go_at_call 39; refine Calls.mono (unhide B _ _) ?_; rintro e w2 ⟨rfl, hw2⟩
       have FA := (unhide A1).on hw2; have FB := (unhide B1).on hw2; have FZ := (unhide Z1).on hw2
       clear p0 p1 p2 p3 p4 q0 q1 q2 q3 q4; have p0 := FA.c0; have p1 := FA.c1; have p2 := FA.c2; have p3 := FA.c3; have p4 := FA.c4; have q0 := FB.c0; have q1 := FB.c1; have q2 := FB.c2; have q3 := FB.c3; have q4 := FB.c4
       have X2 := hide ((unhide X1).trans hw2); have A2 := hide FA; have B2 := hide FB; have Z2 := hide FZ; clear hw2 FA FB FZ)
    | (go_at_call 39; refine Calls.mono (unhide B _ _) ?_; rintro e w1 ⟨rfl, hw1⟩
       have FZ := (Five.new _ _ _ _ _ _ _ _ _ _).on hw1; have y1 := (Ext.alloc _ _).trans hw1; have FB := (Five.new _ _ _ _ _ _ _ _ _ _).on y1; have x1 := (Ext.alloc _ _).trans y1; have FA := (Five.new _ _ _ _ _ _ _ _ _ _).on x1
       simp only [heap_alloc_size] at FZ FB
       have p0 := FA.c0; have p1 := FA.c1; have p2 := FA.c2; have p3 := FA.c3; have p4 := FA.c4; have q0 := FB.c0; have q1 := FB.c1; have q2 := FB.c2; have q3 := FB.c3; have q4 := FB.c4
       have X1 := hide ((Ext.alloc _ _).trans x1); have A1 := hide FA; have B1 := hide FB; have Z1 := hide FZ; clear hw1 x1 y1 FA FB FZ)
    | (go_at_call 42; refine Calls.mono (unhide TX _) ?_; rintro e w7 ⟨v7, rfl, hr7, hw7⟩; rw [Rep] at hr7; obtain ⟨ay, cy, rfl, -, -⟩ := hr7; have W7 := hide hw7; clear hw7)
    | (go_at_call 41; refine Calls.mono (done_any _ _ _ _ _ _ _ _ _) ?_; rintro e w8 ⟨rfl, hw8⟩; rw [if_pos rfl]; have hw78 := (unhide W7).trans hw8; have FZ := (unhide Z2).on hw78; have z0 := FZ.c0; have z1 := FZ.c1; have z2 := FZ.c2; have z3 := FZ.c3; have z4 := FZ.c4; have zf := FZ.fz; clear FZ; have W8 := hide hw78; clear hw78))
  exact bodyPost_ret (v := .tuple #[nilV, .int .i64 4]) (by simp [results, Try.results18, go_sem, z0, z1, z2, z3, z4]) rfl (ans5 4 (w.heap.size + 1 + 1) (unhide X2) (by omega) (World.block_lt_of_cell? _ _ (unhide Z2).c0) (unhide W8) (rep_nil _ _))

set_option maxHeartbeats 4000000 in
theorem add_lists (l1 l2 : List PV) (n n' : Int) (re im re' im' : Nat) (s s' : ByteArray) (a a' : Option Addr) (c c' : Nat) (w : World) (h1 : RepL w (In w) l1 a) (h2 : RepL w (In w) l2 a') (hb : (l1.length + l2.length) * 72 ≤ 140737488355328) (m : List PV) (hq : listP (l1 ++ l2) = ls m) :
    Ans 18 #[.agg #[.int .i64 4, .int .i64 n, .complex .f64 re im, .string s, .slice a l1.length c], .agg #[.int .i64 4, .int .i64 n', .complex .f64 re' im', .string s', .slice a' l2.length c']] w (ls m) 0 := by
  have B := hide (fun kd W => both_any kd 4 n 4 n' re im re' im' s s' a a' l1.length c l2.length c' W)
  have LS := hide (fun (ax : Option Addr) (nx cx : Nat) W (hn : nx = (l1 ++ l2).length) (h : RepL W (In W) (l1 ++ l2) ax) => hn ▸ list_any (l1 ++ l2) ax cx W h (by rw [List.length_append]; exact hb))
  have CC := hide (fun (g : Nat) W (e : Ext w W) (k1 : W.cell? ⟨g, 0, none⟩ = some (.slice a l1.length c)) (k2 : W.cell? ⟨g, 1, none⟩ = some (.slice a' l2.length c')) => concat_any l1 l2 a a' c c' g 2 W k1 k2 (h1.ext e) (h2.ext e) hb)
  rw [hq, ls] at LS
  clear hq h1 h2 hb
  unfold Ans
  go_enter Try.func18, Try.ntmps18
  go_wp2_with (first
    | (go_at_call 39; refine Calls.mono (unhide B _ _) ?_; rintro e w3 ⟨rfl, hw3⟩
       have FA := (unhide A2).on hw3; have FB := (unhide B2).on hw3; have FZ := (unhide Z2).on hw3
       clear p0 p1 p2 p3 p4 q0 q1 q2 q3 q4; have p0 := FA.c0; have p1 := FA.c1; have p2 := FA.c2; have p3 := FA.c3; have p4 := FA.c4; have q0 := FB.c0; have q1 := FB.c1; have q2 := FB.c2; have q3 := FB.c3; have q4 := FB.c4
       have X3 := hide ((unhide X2).trans hw3); have A3 := hide FA; have B3 := hide FB; have Z3 := hide FZ; clear hw3 FA FB FZ)
    | (go_at_call 39; refine Calls.mono (unhide B _ _) ?_; rintro e w2 ⟨rfl, hw2⟩
       have FA := (unhide A1).on hw2; have FB := (unhide B1).on hw2; have FZ := (unhide Z1).on hw2
       clear p0 p1 p2 p3 p4 q0 q1 q2 q3 q4; have p0 := FA.c0; have p1 := FA.c1; have p2 := FA.c2; have p3 := FA.c3; have p4 := FA.c4; have q0 := FB.c0; have q1 := FB.c1; have q2 := FB.c2; have q3 := FB.c3; have q4 := FB.c4
       have X2 := hide ((unhide X1).trans hw2); have A2 := hide FA; have B2 := hide FB; have Z2 := hide FZ; clear hw2 FA FB FZ)
    | (go_at_call 39; refine Calls.mono (unhide B _ _) ?_; rintro e w1 ⟨rfl, hw1⟩
       have FZ := (Five.new _ _ _ _ _ _ _ _ _ _).on hw1; have y1 := (Ext.alloc _ _).trans hw1; have FB := (Five.new _ _ _ _ _ _ _ _ _ _).on y1; have x1 := (Ext.alloc _ _).trans y1; have FA := (Five.new _ _ _ _ _ _ _ _ _ _).on x1
       simp only [heap_alloc_size] at FZ FB
       have p0 := FA.c0; have p1 := FA.c1; have p2 := FA.c2; have p3 := FA.c3; have p4 := FA.c4; have q0 := FB.c0; have q1 := FB.c1; have q2 := FB.c2; have q3 := FB.c3; have q4 := FB.c4
       have X1 := hide ((Ext.alloc _ _).trans x1); have A1 := hide FA; have B1 := hide FB; have Z1 := hide FZ; clear hw1 x1 y1 FA FB FZ)
    | (go_at_call 44; refine Calls.mono (unhide CC _ _ ((unhide X3).trans (Ext.alloc _ _)) (cell_box _ _ _ 0 rfl) (cell_box _ _ _ 1 rfl)) ?_; rintro e w5 ⟨a5, n5, c5, rfl, hn5, hl5, hc5, hw5⟩; have RL5 := hide hl5; have N5 := hide hn5; have W5 := hide ((Ext.alloc _ _).trans hw5); clear hl5 hc5 hw5 hn5)
    | (go_at_call 43; refine Calls.mono (unhide LS _ _ _ _ (unhide N5) (unhide RL5)) ?_; rintro e w7 ⟨v7, rfl, hr7, hw7⟩; rw [Rep] at hr7; obtain ⟨ay, cy, rfl, hby, hly⟩ := hr7; have BY := hide hby; have LY := hide hly; have W6 := hide hw7; have W7 := hide ((unhide W5).trans hw7); clear hby hly hw7)
    | (go_at_call 41; refine Calls.mono (done_any _ _ _ _ _ _ _ _ _) ?_; rintro e w8 ⟨rfl, hw8⟩; rw [if_neg (by decide)]; have E8 := hide hw8; have hw78 := (unhide W7).trans hw8; have FZ := (unhide Z3).on hw78; have z0 := FZ.c0; have z1 := FZ.c1; have z2 := FZ.c2; have z3 := FZ.c3; have z4 := FZ.c4; have zf := FZ.fz; clear FZ; have W8 := hide hw78; clear hw78))
  exact bodyPost_ret (v := .tuple #[.agg #[.int .i64 4, .int .i64 0, .complex .f64 0 0, .string ⟨#[]⟩, .slice ay m.length cy], .int .i64 0]) (by simp [results, Try.results18, go_sem, z0, z1, z2, z3, z4]) rfl (ans5 0 (w.heap.size + 1 + 1) (unhide X3) (by omega) (World.block_lt_of_cell? _ _ (unhide Z3).c0) (unhide W8) (rep_fresh (unhide BY) (unhide LY) (unhide W5) (unhide E8)))

set_option maxHeartbeats 4000000 in
theorem add_lists_big (l1 l2 : List PV) (n n' : Int) (re im re' im' : Nat) (s s' : ByteArray) (a a' : Option Addr) (c c' : Nat) (w : World) (h1 : RepL w (In w) l1 a) (h2 : RepL w (In w) l2 a') (hb : (l1.length + l2.length) * 72 ≤ 140737488355328) (hq : listP (l1 ++ l2) = nilP) :
    Ans 18 #[.agg #[.int .i64 4, .int .i64 n, .complex .f64 re im, .string s, .slice a l1.length c], .agg #[.int .i64 4, .int .i64 n', .complex .f64 re' im', .string s', .slice a' l2.length c']] w nilP 4 := by
  have B := hide (fun kd W => both_any kd 4 n 4 n' re im re' im' s s' a a' l1.length c l2.length c' W)
  have LS := hide (fun (ax : Option Addr) (nx cx : Nat) W (hn : nx = (l1 ++ l2).length) (h : RepL W (In W) (l1 ++ l2) ax) => hn ▸ list_any (l1 ++ l2) ax cx W h (by rw [List.length_append]; exact hb))
  have CC := hide (fun (g : Nat) W (e : Ext w W) (k1 : W.cell? ⟨g, 0, none⟩ = some (.slice a l1.length c)) (k2 : W.cell? ⟨g, 1, none⟩ = some (.slice a' l2.length c')) => concat_any l1 l2 a a' c c' g 2 W k1 k2 (h1.ext e) (h2.ext e) hb)
  rw [hq, nilP] at LS
  clear hq h1 h2 hb
  unfold Ans
  go_enter Try.func18, Try.ntmps18
  go_wp2_with (first
    | (go_at_call 39; refine Calls.mono (unhide B _ _) ?_; rintro e w3 ⟨rfl, hw3⟩
       have FA := (unhide A2).on hw3; have FB := (unhide B2).on hw3; have FZ := (unhide Z2).on hw3
       clear p0 p1 p2 p3 p4 q0 q1 q2 q3 q4; have p0 := FA.c0; have p1 := FA.c1; have p2 := FA.c2; have p3 := FA.c3; have p4 := FA.c4; have q0 := FB.c0; have q1 := FB.c1; have q2 := FB.c2; have q3 := FB.c3; have q4 := FB.c4
       have X3 := hide ((unhide X2).trans hw3); have A3 := hide FA; have B3 := hide FB; have Z3 := hide FZ; clear hw3 FA FB FZ)
    | (go_at_call 39; refine Calls.mono (unhide B _ _) ?_; rintro e w2 ⟨rfl, hw2⟩
       have FA := (unhide A1).on hw2; have FB := (unhide B1).on hw2; have FZ := (unhide Z1).on hw2
       clear p0 p1 p2 p3 p4 q0 q1 q2 q3 q4; have p0 := FA.c0; have p1 := FA.c1; have p2 := FA.c2; have p3 := FA.c3; have p4 := FA.c4; have q0 := FB.c0; have q1 := FB.c1; have q2 := FB.c2; have q3 := FB.c3; have q4 := FB.c4
       have X2 := hide ((unhide X1).trans hw2); have A2 := hide FA; have B2 := hide FB; have Z2 := hide FZ; clear hw2 FA FB FZ)
    | (go_at_call 39; refine Calls.mono (unhide B _ _) ?_; rintro e w1 ⟨rfl, hw1⟩
       have FZ := (Five.new _ _ _ _ _ _ _ _ _ _).on hw1; have y1 := (Ext.alloc _ _).trans hw1; have FB := (Five.new _ _ _ _ _ _ _ _ _ _).on y1; have x1 := (Ext.alloc _ _).trans y1; have FA := (Five.new _ _ _ _ _ _ _ _ _ _).on x1
       simp only [heap_alloc_size] at FZ FB
       have p0 := FA.c0; have p1 := FA.c1; have p2 := FA.c2; have p3 := FA.c3; have p4 := FA.c4; have q0 := FB.c0; have q1 := FB.c1; have q2 := FB.c2; have q3 := FB.c3; have q4 := FB.c4
       have X1 := hide ((Ext.alloc _ _).trans x1); have A1 := hide FA; have B1 := hide FB; have Z1 := hide FZ; clear hw1 x1 y1 FA FB FZ)
    | (go_at_call 44; refine Calls.mono (unhide CC _ _ ((unhide X3).trans (Ext.alloc _ _)) (cell_box _ _ _ 0 rfl) (cell_box _ _ _ 1 rfl)) ?_; rintro e w5 ⟨a5, n5, c5, rfl, hn5, hl5, hc5, hw5⟩; have RL5 := hide hl5; have N5 := hide hn5; have W5 := hide ((Ext.alloc _ _).trans hw5); clear hl5 hc5 hw5 hn5)
    | (go_at_call 43; refine Calls.mono (unhide LS _ _ _ _ (unhide N5) (unhide RL5)) ?_; rintro e w7 ⟨v7, rfl, hr7, hw7⟩; rw [Rep] at hr7; obtain ⟨ay, cy, rfl, hby, hly⟩ := hr7; have BY := hide hby; have LY := hide hly; have W6 := hide hw7; have W7 := hide ((unhide W5).trans hw7); clear hby hly hw7)
    | (go_at_call 41; refine Calls.mono (done_any _ _ _ _ _ _ _ _ _) ?_; rintro e w8 ⟨rfl, hw8⟩; rw [if_pos rfl]; have E8 := hide hw8; have hw78 := (unhide W7).trans hw8; have FZ := (unhide Z3).on hw78; have z0 := FZ.c0; have z1 := FZ.c1; have z2 := FZ.c2; have z3 := FZ.c3; have z4 := FZ.c4; have zf := FZ.fz; clear FZ; have W8 := hide hw78; clear hw78))
  exact bodyPost_ret (v := .tuple #[nilV, .int .i64 4]) (by simp [results, Try.results18, go_sem, z0, z1, z2, z3, z4]) rfl (ans5 4 (w.heap.size + 1 + 1) (unhide X3) (by omega) (World.block_lt_of_cell? _ _ (unhide Z3).c0) (unhide W8) (rep_nil _ _))

theorem repL_one {w : World} {p : PV} {ap : Option Addr} {c1 : Nat} {t : TypeId} (hp : Bd p.k p.n p.re p.im p.s p.l.length c1) (hpl : RepL w (In w) p.l ap) :
    RepL (w.alloc (.cells #[.int .i64 p.k, .int .i64 p.n, .complex .f64 p.re p.im, .string p.s, .slice ap p.l.length c1] t)) (In (w.alloc (.cells #[.int .i64 p.k, .int .i64 p.n, .complex .f64 p.re p.im, .string p.s, .slice ap p.l.length c1] t))) [p] (some ⟨w.heap.size, 0, none⟩) := by
  refine RepL.cons (a := ap) (cap := c1) ⟨by simp [In], cell_box w _ t 0 rfl, cell_box w _ t 1 rfl, cell_box w _ t 2 rfl, cell_box w _ t 3 rfl, cell_box w _ t 4 rfl, hp, hpl.ext (Ext.alloc _ _)⟩ ?_
  simp [RepL]

theorem push_cat (l1 : List PV) (k' : Int) (l2 : List PV) (n' : Int) (re' im' : Nat) (s' : ByteArray) (a a' : Option Addr) (c c' : Nat) (w : World) (h1 : RepL w (In w) l1 a) (hB : Bd k' n' re' im' s' l2.length c') (h2 : RepL w (In w) l2 a') (hb : (l1.length + 1) * 72 ≤ 140737488355328)
    (g1 g2 : Nat) (W : World) (T : TypeId) (e : Ext w W) (e1 : g1 = W.heap.size) (e2 : g2 = W.heap.size + 1) :
    Calls Try.prog 44 #[.slice (some ⟨g2, 0, none⟩) 2 2] ((W.alloc (.cells #[.int .i64 k', .int .i64 n', .complex .f64 re' im', .string s', .slice a' l2.length c'] 25)).alloc (.cells #[.slice a l1.length c, .slice (some ⟨g1, 0, none⟩) 1 1] T))
      fun e w' => ∃ a5 n5 c5, e = .returned (.slice a5 n5 c5) ∧ n5 = (l1 ++ [PV.mk k' n' re' im' s' l2]).length ∧ RepL w' (In w') (l1 ++ [PV.mk k' n' re' im' s' l2]) a5 ∧ n5 ≤ c5 ∧ Ext ((W.alloc (.cells #[.int .i64 k', .int .i64 n', .complex .f64 re' im', .string s', .slice a' l2.length c'] 25)).alloc (.cells #[.slice a l1.length c, .slice (some ⟨g1, 0, none⟩) 1 1] T)) w' := by
  subst e1
  have r2 : RepL (W.alloc (.cells #[.int .i64 k', .int .i64 n', .complex .f64 re' im', .string s', .slice a' l2.length c'] 25)) (In (W.alloc (.cells #[.int .i64 k', .int .i64 n', .complex .f64 re' im', .string s', .slice a' l2.length c'] 25))) [PV.mk k' n' re' im' s' l2] (some ⟨W.heap.size, 0, none⟩) := repL_one (p := PV.mk k' n' re' im' s' l2) hB (h2.ext e)
  have x1 : Ext w (W.alloc (.cells #[.int .i64 k', .int .i64 n', .complex .f64 re' im', .string s', .slice a' l2.length c'] 25)) := e.trans (Ext.alloc _ _)
  obtain rfl : g2 = (W.alloc (.cells #[.int .i64 k', .int .i64 n', .complex .f64 re' im', .string s', .slice a' l2.length c'] 25)).heap.size := by rw [e2, heap_alloc_size]
  clear e2
  generalize W.alloc (.cells #[.int .i64 k', .int .i64 n', .complex .f64 re' im', .string s', .slice a' l2.length c'] 25) = W1 at r2 x1 ⊢
  exact concat_any l1 [PV.mk k' n' re' im' s' l2] a (some ⟨W.heap.size, 0, none⟩) c 1 W1.heap.size 2 (W1.alloc (.cells #[.slice a l1.length c, .slice (some ⟨W.heap.size, 0, none⟩) 1 1] T)) (cell_box W1 _ T 0 rfl) (cell_box W1 #[.slice a l1.length c, .slice (some ⟨W.heap.size, 0, none⟩) 1 1] T 1 rfl) (h1.ext (x1.trans (Ext.alloc _ _))) (r2.ext (Ext.alloc _ _)) hb

set_option maxHeartbeats 4000000 in
theorem push_any (l1 : List PV) (k' : Int) (l2 : List PV) (n n' : Int) (re im re' im' : Nat) (s s' : ByteArray) (a a' : Option Addr) (c c' : Nat) (w : World) (h1 : RepL w (In w) l1 a) (hB : Bd k' n' re' im' s' l2.length c') (h2 : RepL w (In w) l2 a') (hb : (l1.length + 1) * 72 ≤ 140737488355328) (m : List PV) (hq : listP (l1 ++ [PV.mk k' n' re' im' s' l2]) = ls m) :
    Ans 30 #[.agg #[.int .i64 4, .int .i64 n, .complex .f64 re im, .string s, .slice a l1.length c], .agg #[.int .i64 k', .int .i64 n', .complex .f64 re' im', .string s', .slice a' l2.length c']] w (ls m) 0 := by
  have LS := hide (fun (ax : Option Addr) (nx cx : Nat) W (hn : nx = (l1 ++ [PV.mk k' n' re' im' s' l2]).length) (h : RepL W (In W) (l1 ++ [PV.mk k' n' re' im' s' l2]) ax) => hn ▸ list_any (l1 ++ [PV.mk k' n' re' im' s' l2]) ax cx W h (by rw [List.length_append]; exact hb))
  have CC := hide (push_cat l1 k' l2 n' re' im' s' a a' c c' w h1 hB h2 hb)
  rw [hq, ls] at LS
  clear hq h1 h2 hb hB
  unfold Ans
  go_enter Try.func30, Try.ntmps30
  have X1 : Hd (Ext w (((w.alloc (.cells #[.int .i64 4, .int .i64 n, .complex .f64 re im, .string s, .slice a l1.length c] 25)).alloc (.cells #[.int .i64 k', .int .i64 n', .complex .f64 re' im', .string s', .slice a' l2.length c'] 25)).alloc (.cells #[.int .i64 0, .int .i64 0, .complex .f64 0 0, .string ⟨#[]⟩, .slice none 0 0] 25))) := ((Ext.alloc _ _).trans (Ext.alloc _ _)).trans (Ext.alloc _ _)
  have hZ := Five.new ((w.alloc (.cells #[.int .i64 4, .int .i64 n, .complex .f64 re im, .string s, .slice a l1.length c] 25)).alloc (.cells #[.int .i64 k', .int .i64 n', .complex .f64 re' im', .string s', .slice a' l2.length c'] 25)) 25 0 0 0 0 ⟨#[]⟩ none 0 0
  simp only [heap_alloc_size] at hZ
  have Z1 := hide hZ
  clear hZ
  go_wp2_with (first
    | (go_at_call 44; refine Calls.mono (unhide CC _ _ _ _ (unhide X1) (by simp) (by simp)) ?_; rintro e w5 ⟨a5, n5, c5, rfl, hn5, hl5, hc5, hw5⟩; have RL5 := hide hl5; have N5 := hide hn5; have W5 := hide (((Ext.alloc _ _).trans (Ext.alloc _ _)).trans hw5); clear hl5 hc5 hw5 hn5)
    | (go_at_call 43; refine Calls.mono (unhide LS _ _ _ _ (unhide N5) (unhide RL5)) ?_; rintro e w7 ⟨v7, rfl, hr7, hw7⟩; rw [Rep] at hr7; obtain ⟨ay, cy, rfl, hby, hly⟩ := hr7; have BY := hide hby; have LY := hide hly; have W6 := hide hw7; have W7 := hide ((unhide W5).trans hw7); clear hby hly hw7)
    | (go_at_call 41; refine Calls.mono (done_any _ _ _ _ _ _ _ _ _) ?_; rintro e w8 ⟨rfl, hw8⟩; rw [if_neg (by decide)]; have E8 := hide hw8; have hw78 := (unhide W7).trans hw8; have FZ := (unhide Z1).on hw78; have z0 := FZ.c0; have z1 := FZ.c1; have z2 := FZ.c2; have z3 := FZ.c3; have z4 := FZ.c4; have zf := FZ.fz; clear FZ; have W8 := hide hw78; clear hw78))
  exact bodyPost_ret (v := .tuple #[.agg #[.int .i64 4, .int .i64 0, .complex .f64 0 0, .string ⟨#[]⟩, .slice ay m.length cy], .int .i64 0]) (by simp [results, Try.results30, go_sem, z0, z1, z2, z3, z4]) rfl (ans5 0 (w.heap.size + 1 + 1) (unhide X1) (by omega) (World.block_lt_of_cell? _ _ (unhide Z1).c0) (unhide W8) (rep_fresh (unhide BY) (unhide LY) (unhide W5) (unhide E8)))

set_option maxHeartbeats 4000000 in
theorem get_list (l1 : List PV) (i : Nat) (x : PV) (n : Int) (re im re' im' : Nat) (s s' : ByteArray) (a a' : Option Addr) (c l' c' : Nat) (w : World) (h1 : RepL w (In w) l1 a) (hi : l1[i]? = some x) (y : PV) (hy : cp x = y) (hyl : y.l = []) :
    Ans 29 #[.agg #[.int .i64 4, .int .i64 n, .complex .f64 re im, .string s, .slice a l1.length c], .agg #[.int .i64 1, .int .i64 (i : Int), .complex .f64 re' im', .string s', .slice a' l' c']] w y 0 := by
  have hlt : i < l1.length := by
    rcases Nat.lt_or_ge i l1.length with q | q
    · exact q
    · rw [List.getElem?_eq_none q] at hi; cases hi
  obtain ⟨b, off, a2, c2, rfl, hE⟩ := RepL.get h1 i x hi
  have CP := hide (fun W (e : Ext w W) => copy_any x _ W (hE.rep.ext e))
  have show_cp : norm (tk x) = y := hy
  have e0 := hE.c0
  have e1 := hE.c1
  have e2 := hE.c2
  have e3 := hE.c3
  have e4 := hE.c4
  have hbw : b < w.heap.size := hE.f
  have E0 := hide e0
  have E1 := hide e1
  have E2 := hide e2
  have E3 := hide e3
  have E4 := hide e4
  clear e0 e1 e2 e3 e4 hE h1 hi show_cp
  rw [hy] at CP
  clear hy
  cases y with
  | mk ky ny rey imy sy ly =>
  have hyl2 : ly = [] := hyl
  subst hyl2
  clear hyl
  unfold Ans
  go_enter Try.func29, Try.ntmps29
  go_wp2_with (first
    | (go_at_call 57; refine Calls.mono (length_list _ _ _ _ _ _ _ _) ?_; rintro e w1 ⟨rfl, hw1⟩
       have FZ := (Five.new _ _ _ _ _ _ _ _ _ _).on hw1; have y1 := (Ext.alloc _ _).trans hw1; have FB := (Five.new _ _ _ _ _ _ _ _ _ _).on y1; have x1 := (Ext.alloc _ _).trans y1; have FA := (Five.new _ _ _ _ _ _ _ _ _ _).on x1
       simp only [heap_alloc_size] at FZ FB
       have p0 := FA.c0; have p1 := FA.c1; have p2 := FA.c2; have p3 := FA.c3; have p4 := FA.c4; have q0 := FB.c0; have q1 := FB.c1; have q2 := FB.c2; have q3 := FB.c3; have q4 := FB.c4
       have X1 := hide ((Ext.alloc _ _).trans x1); have A1 := hide FA; have B1 := hide FB; have Z1 := hide FZ; clear hw1 x1 y1 FA FB FZ; have e0 := (unhide X1).cell (unhide E0); have e1 := (unhide X1).cell (unhide E1); have e2 := (unhide X1).cell (unhide E2); have e3 := (unhide X1).cell (unhide E3); have e4 := (unhide X1).cell (unhide E4))
    | (go_at_call 58; refine Calls.mono (unhide CP _ (unhide X1)) ?_; rintro e w7 ⟨v7, rfl, hr7, hw7⟩; rw [Rep] at hr7; obtain ⟨ay, cy, rfl, hby, hly⟩ := hr7; have BY := hide hby; have FZ := (unhide Z1).on hw7; have z0 := FZ.c0; have z1 := FZ.c1; have z2 := FZ.c2; have z3 := FZ.c3; have z4 := FZ.c4; have zf := FZ.fz; clear FZ; have W8 := hide hw7; clear hw7 hby hly))
  exact bodyPost_ret (v := .tuple #[.agg #[.int .i64 ky, .int .i64 ny, .complex .f64 rey imy, .string sy, .slice ay 0 cy], .int .i64 0]) (by simp [results, Try.results29, go_sem, z0, z1, z2, z3, z4]) rfl (ans5 0 (w.heap.size + 1 + 1) (unhide X1) (by omega) (World.block_lt_of_cell? _ _ (unhide Z1).c0) (unhide W8) (by rw [Rep]; exact ⟨ay, cy, rfl, unhide BY, by simp [RepL]⟩))

theorem howMany_text (n : Int) (re im : Nat) (s : ByteArray) (a : Option Addr) (l c : Nat) (w : World) (hs : s.size ≤ 1000) :
    Ans 35 #[.agg #[.int .i64 3, .int .i64 n, .complex .f64 re im, .string s, .slice a l c]] w (it (s.size : Int)) 0 := by
  unfold Ans
  go_enter Try.func35, Try.ntmps35
  go_wp2_with (first
    | (go_at_call 57; refine Calls.mono (length_text _ _ _ _ _ _ _ _) ?_; rintro e w1 ⟨rfl, hw1⟩; have FZ := (Five.new _ _ _ _ _ _ _ _ _ _).on hw1; simp only [heap_alloc_size] at FZ; have X1 := hide (((Ext.alloc _ _).trans (Ext.alloc _ _)).trans hw1); have Z1 := hide FZ; clear FZ hw1)
    | (go_at_call 40; refine Calls.mono (int_any _ _) ?_; rintro e w7 ⟨rfl, hw7⟩; have FZ := (unhide Z1).on hw7; have z0 := FZ.c0; have z1 := FZ.c1; have z2 := FZ.c2; have z3 := FZ.c3; have z4 := FZ.c4; have zf := FZ.fz; clear FZ; have W8 := hide hw7; clear hw7))
  exact bodyPost_ret (v := .tuple #[.agg #[.int .i64 1, .int .i64 (s.size : Int), .complex .f64 0 0, .string ⟨#[]⟩, .slice none 0 0], .int .i64 0]) (by simp [results, Try.results35, go_sem, z0, z1, z2, z3, z4]) rfl (ans5 0 (w.heap.size + 1) (unhide X1) (by omega) (World.block_lt_of_cell? _ _ (unhide Z1).c0) (unhide W8) (rep_it _ _ _ (by omega) (by omega) none 0))

theorem howMany_list (n : Int) (re im : Nat) (s : ByteArray) (a : Option Addr) (l c : Nat) (w : World) (hs : l ≤ 1000) :
    Ans 35 #[.agg #[.int .i64 4, .int .i64 n, .complex .f64 re im, .string s, .slice a l c]] w (it (l : Int)) 0 := by
  unfold Ans
  go_enter Try.func35, Try.ntmps35
  go_wp2_with (first
    | (go_at_call 57; refine Calls.mono (length_list _ _ _ _ _ _ _ _) ?_; rintro e w1 ⟨rfl, hw1⟩; have FZ := (Five.new _ _ _ _ _ _ _ _ _ _).on hw1; simp only [heap_alloc_size] at FZ; have X1 := hide (((Ext.alloc _ _).trans (Ext.alloc _ _)).trans hw1); have Z1 := hide FZ; clear FZ hw1)
    | (go_at_call 40; refine Calls.mono (int_any _ _) ?_; rintro e w7 ⟨rfl, hw7⟩; have FZ := (unhide Z1).on hw7; have z0 := FZ.c0; have z1 := FZ.c1; have z2 := FZ.c2; have z3 := FZ.c3; have z4 := FZ.c4; have zf := FZ.fz; clear FZ; have W8 := hide hw7; clear hw7))
  exact bodyPost_ret (v := .tuple #[.agg #[.int .i64 1, .int .i64 (l : Int), .complex .f64 0 0, .string ⟨#[]⟩, .slice none 0 0], .int .i64 0]) (by simp [results, Try.results35, go_sem, z0, z1, z2, z3, z4]) rfl (ans5 0 (w.heap.size + 1) (unhide X1) (by omega) (World.block_lt_of_cell? _ _ (unhide Z1).c0) (unhide W8) (rep_it _ _ _ (by omega) (by omega) none 0))

theorem number_none (k n : Int) (re im : Nat) (s : ByteArray) (a : Option Addr) (l c : Nat) (w : World) (h : k = 0 ∨ k = 3 ∨ k = 4) :
    Calls Try.prog 65 #[.agg #[.int .i64 k, .int .i64 n, .complex .f64 re im, .string s, .slice a l c]] w fun e w' => e = .returned (.tuple #[.complex .f64 0 0, .bool false]) ∧ Ext w w' := by
  rcases h with rfl | rfl | rfl
  all_goals
    go_enter Try.func65, Try.ntmps65
    go_wp2_with fail
    go_ret2
    exact ⟨rfl, Ext.alloc _ _⟩

theorem number_int (n : Int) (re im : Nat) (s : ByteArray) (a : Option Addr) (l c : Nat) (w : World) :
    Calls Try.prog 65 #[.agg #[.int .i64 1, .int .i64 n, .complex .f64 re im, .string s, .slice a l c]] w fun e w' => e = .returned (.tuple #[.complex .f64 (floatOfInt .f64 n) (floatOfInt .f64 0), .bool true]) ∧ Ext w w' := by
  go_enter Try.func65, Try.ntmps65
  go_wp2_with (go_at_call 60; refine (of_any _ _ _).mono ?_; rintro e w' ⟨rfl, rfl⟩)
  go_ret2
  exact ⟨rfl, Ext.alloc _ _⟩

theorem number_cx (n : Int) (re im : Nat) (s : ByteArray) (a : Option Addr) (l c : Nat) (w : World) :
    Calls Try.prog 65 #[.agg #[.int .i64 2, .int .i64 n, .complex .f64 re im, .string s, .slice a l c]] w fun e w' => e = .returned (.tuple #[.complex .f64 re im, .bool true]) ∧ Ext w w' := by
  go_enter Try.func65, Try.ntmps65
  go_wp2_with fail
  go_ret2
  exact ⟨rfl, Ext.alloc _ _⟩

set_option maxHeartbeats 4000000 in
theorem parts_kind (f : FuncId) (k k' : Int) (n n' : Int) (re im re' im' : Nat) (s s' : ByteArray) (a a' : Option Addr) (l c l' c' : Nat) (w : World) (h : k = 0 ∨ k = 3 ∨ k = 4) (h' : k' = 0 ∨ k' = 3 ∨ k' = 4) :
    Ans 45 #[fnV f, .agg #[.int .i64 k, .int .i64 n, .complex .f64 re im, .string s, .slice a l c], .agg #[.int .i64 k', .int .i64 n', .complex .f64 re' im', .string s', .slice a' l' c']] w nilP 1 := by
  have NA := hide (fun W => number_none k n re im s a l c W h)
  have NB := hide (fun W => number_none k' n' re' im' s' a' l' c' W h')
  clear h h'
  unfold Ans
  go_enter Try.func45, Try.ntmps45
  go_wp2_with (first
    | (go_at_call 65; have FA := (unhide A1); refine Calls.mono (unhide NB _) ?_; rintro e w2 ⟨rfl, hw2⟩; have X2 := hide ((unhide X1).trans hw2); have Z2 := hide ((unhide Z1).on hw2); clear hw2 FA)
    | (go_at_call 65; refine Calls.mono (unhide NA _) ?_; rintro e w1 ⟨rfl, hw1⟩
       have FZ := (Five.new _ _ _ _ _ _ _ _ _ _).on hw1; have y1 := (Ext.alloc _ _).trans hw1; have FB := (Five.new _ _ _ _ _ _ _ _ _ _).on y1; have x1 := (Ext.alloc _ _).trans y1; have FA := (Five.new _ _ _ _ _ _ _ _ _ _).on x1
       simp only [heap_alloc_size] at FZ FB
       have p0 := FA.c0; have p1 := FA.c1; have p2 := FA.c2; have p3 := FA.c3; have p4 := FA.c4; have q0 := FB.c0; have q1 := FB.c1; have q2 := FB.c2; have q3 := FB.c3; have q4 := FB.c4
       have X1 := hide ((Ext.alloc _ _).trans x1); have A1 := hide FA; have Z1 := hide FZ; clear hw1 x1 y1 FA FB FZ)
    | (go_at_call 12; refine Calls.mono (failed_any _ _) ?_; rintro e w7 ⟨rfl, hw7⟩; have FZ := (unhide Z2).on hw7; have z0 := FZ.c0; have z1 := FZ.c1; have z2 := FZ.c2; have z3 := FZ.c3; have z4 := FZ.c4; have zf := FZ.fz; clear FZ; have W8 := hide hw7; clear hw7))
  exact bodyPost_ret (v := .tuple #[nilV, .int .i64 1]) (by simp [results, Try.results45, go_sem, z0, z1, z2, z3, z4]) rfl (ans5 1 (w.heap.size + 1 + 1) (unhide X2) (by omega) (World.block_lt_of_cell? _ _ (unhide Z2).c0) (unhide W8) (rep_nil _ _))

set_option maxHeartbeats 4000000 in
theorem add_kind (k k' : Int) (n n' : Int) (re im re' im' : Nat) (s s' : ByteArray) (a a' : Option Addr) (l c l' c' : Nat) (w : World) (h : (k = 0 ∧ (k' = 0 ∨ k' = 3 ∨ k' = 4)) ∨ ((k = 3 ∨ k = 4) ∧ k' = 0)) :
    Ans 18 #[.agg #[.int .i64 k, .int .i64 n, .complex .f64 re im, .string s, .slice a l c], .agg #[.int .i64 k', .int .i64 n', .complex .f64 re' im', .string s', .slice a' l' c']] w nilP 1 := by
  have WPC := hide (fun f W => parts_kind f k k' n n' re im re' im' s s' a a' l c l' c' W (by omega) (by omega))
  have B := hide (fun kd W => both_any kd k n k' n' re im re' im' s s' a a' l c l' c' W)
  have b1 : (decide (k = 1) && decide (k' = 1)) = false := by
    rw [Bool.and_eq_false_iff, decide_eq_false_iff_not, decide_eq_false_iff_not]; omega
  have b3 : (decide (k = 3) && decide (k' = 3)) = false := by
    rw [Bool.and_eq_false_iff, decide_eq_false_iff_not, decide_eq_false_iff_not]; omega
  have b4 : (decide (k = 4) && decide (k' = 4)) = false := by
    rw [Bool.and_eq_false_iff, decide_eq_false_iff_not, decide_eq_false_iff_not]; omega
  have C1 := hide b1
  have C3 := hide b3
  have C4 := hide b4
  clear h b1 b3 b4
  unfold Ans at WPC ⊢
  rw [nilP] at WPC
  go_enter Try.func18, Try.ntmps18
  go_wp2_with (first
    | (go_at_call 39; refine Calls.mono (unhide B _ _) ?_; rintro e w3 ⟨rfl, hw3⟩; rw [unhide C4]
       have FA := (unhide A2).on hw3; have FB := (unhide B2).on hw3; have FZ := (unhide Z2).on hw3
       clear p0 p1 p2 p3 p4 q0 q1 q2 q3 q4; have p0 := FA.c0; have p1 := FA.c1; have p2 := FA.c2; have p3 := FA.c3; have p4 := FA.c4; have q0 := FB.c0; have q1 := FB.c1; have q2 := FB.c2; have q3 := FB.c3; have q4 := FB.c4
       have X3 := hide ((unhide X2).trans hw3); have A3 := hide FA; have B3 := hide FB; have Z3 := hide FZ; clear hw3 FA FB FZ)
    | (go_at_call 39; refine Calls.mono (unhide B _ _) ?_; rintro e w2 ⟨rfl, hw2⟩; rw [unhide C3]
       have FA := (unhide A1).on hw2; have FB := (unhide B1).on hw2; have FZ := (unhide Z1).on hw2
       clear p0 p1 p2 p3 p4 q0 q1 q2 q3 q4; have p0 := FA.c0; have p1 := FA.c1; have p2 := FA.c2; have p3 := FA.c3; have p4 := FA.c4; have q0 := FB.c0; have q1 := FB.c1; have q2 := FB.c2; have q3 := FB.c3; have q4 := FB.c4
       have X2 := hide ((unhide X1).trans hw2); have A2 := hide FA; have B2 := hide FB; have Z2 := hide FZ; clear hw2 FA FB FZ)
    | (go_at_call 39; refine Calls.mono (unhide B _ _) ?_; rintro e w1 ⟨rfl, hw1⟩; rw [unhide C1]
       have FZ := (Five.new _ _ _ _ _ _ _ _ _ _).on hw1; have y1 := (Ext.alloc _ _).trans hw1; have FB := (Five.new _ _ _ _ _ _ _ _ _ _).on y1; have x1 := (Ext.alloc _ _).trans y1; have FA := (Five.new _ _ _ _ _ _ _ _ _ _).on x1
       simp only [heap_alloc_size] at FZ FB
       have p0 := FA.c0; have p1 := FA.c1; have p2 := FA.c2; have p3 := FA.c3; have p4 := FA.c4; have q0 := FB.c0; have q1 := FB.c1; have q2 := FB.c2; have q3 := FB.c3; have q4 := FB.c4
       have X1 := hide ((Ext.alloc _ _).trans x1); have A1 := hide FA; have B1 := hide FB; have Z1 := hide FZ; clear hw1 x1 y1 FA FB FZ)
    | (go_at_call 45; refine Calls.mono (unhide WPC _ _) ?_; rintro e w7 ⟨r, rfl, hr, hw7⟩; rw [Rep] at hr; obtain ⟨ay, cy, rfl, -, -⟩ := hr; have FZ := (unhide Z3).on hw7; have z0 := FZ.c0; have z1 := FZ.c1; have z2 := FZ.c2; have z3 := FZ.c3; have z4 := FZ.c4; have zf := FZ.fz; clear FZ; have W8 := hide hw7; clear hw7))
  exact bodyPost_ret (v := .tuple #[.agg #[.int .i64 0, .int .i64 0, .complex .f64 0 0, .string ⟨#[]⟩, .slice ay 0 cy], .int .i64 1]) (by simp [results, Try.results18, go_sem, z0, z1, z2, z3, z4]) rfl (ans5 1 (w.heap.size + 1 + 1) (unhide X3) (by omega) (World.block_lt_of_cell? _ _ (unhide Z3).c0) (unhide W8) (by rw [nilP, Rep]; exact ⟨ay, cy, rfl, ⟨by decide, by decide, by decide, by decide, by decide, by decide, by decide, by decide, Nat.zero_le _⟩, by simp [RepL]⟩))

end Go.Proofs.Ytbkncdjmodeabaa
