/- turnEnds: each end of a row of blocks led to where its ways come to. -/
import Derived.Test.YtdnhekgbfhlhoaaThN
set_option linter.unusedSimpArgs false
set_option linter.unusedVariables false
set_option maxRecDepth 10000
namespace Go.Proofs.Ytdnhekgbfhlhoaa
open Go.RowKit

/-- A row of ends, cell by cell. -/
def eC : List RT → List Value
  | [] => []
  | t :: l => rtC t ++ eC l
theorem eC_split : ∀ (l : List RT) (i : Nat) (t : RT), l[i]? = some t → ∃ p q, eC l = p ++ (rtC t ++ q) ∧ p.length = i * 4 ∧ ∀ t', eC (l.set i t') = p ++ (rtC t' ++ q)
  | [], _, _, h => by simp at h
  | t :: l, 0, t0, h => by
    simp at h
    subst h
    exact ⟨[], eC l, by simp [eC], rfl, fun t' => by simp [eC]⟩
  | t :: l, i + 1, t0, h => by
    obtain ⟨p, q, h1, h2, h3⟩ := eC_split l i t0 (by simpa using h)
    refine ⟨rtC t ++ p, q, by rw [eC, h1, List.append_assoc], by simp [h2]; omega, fun t' => ?_⟩
    rw [List.set_cons_succ, eC, h3, List.append_assoc]
theorem eC_at {l : List RT} {i : Nat} {t : RT} (h : l[i]? = some t) (j : Nat) {v : Value} (hj : (rtC t)[j]? = some v) : (eC l)[i * 4 + j]? = some v := by
  obtain ⟨p, q, e, hp, _⟩ := eC_split l i t h
  have hj4 := (List.getElem?_eq_some_iff.1 hj).1
  rw [e, List.getElem?_append_right (by omega), show i * 4 + j - p.length = j by omega, List.getElem?_append_left hj4]
  exact hj
theorem eC_set {l : List RT} {i : Nat} {t : RT} (h : l[i]? = some t) (u : RT) :
    ((((eC l).set (i * 4) (.int .i64 u.k)).set (i * 4 + 1) (.int .i64 u.a)).set (i * 4 + 2) (.int .i64 u.t)).set (i * 4 + 3) (.int .i64 u.e) = eC (l.set i u) := by
  obtain ⟨p, q, e, hp, h3⟩ := eC_split l i t h
  rw [h3 u, e]
  simp [List.set_append, hp]
theorem eC_zero : ∀ n : Nat, eC (List.replicate n ⟨0, 0, 0, 0⟩) = List.replicate (n * 4) (Value.int .i64 0)
  | 0 => rfl
  | n + 1 => by
    rw [List.replicate_succ, eC, eC_zero n, show (n + 1) * 4 = n * 4 + 1 + 1 + 1 + 1 by omega, List.replicate_succ, List.replicate_succ, List.replicate_succ, List.replicate_succ]
    rfl
theorem k_infoE : ∃ i0, Try.prog.info? 35 = some i0 ∧ i0.zero = some (.agg #[.int .i64 0, .int .i64 0, .int .i64 0, .int .i64 0]) ∧ i0.size = 4 ∧ i0.bytes = 32 := by
  have h : (Try.prog.info? 35).map (fun i => (i.zero, i.size, i.bytes)) = some (some (.agg #[.int .i64 0, .int .i64 0, .int .i64 0, .int .i64 0]), 4, 32) := by kernel_rfl
  cases hi : Try.prog.info? 35 with
  | none => rw [hi] at h; cases h
  | some i =>
    rw [hi] at h
    simp at h
    exact ⟨i, rfl, h.1, h.2.1, h.2.2⟩
theorem make_ends (n : Nat) (hn : n ≤ 1000000) (w : World) : (Instr.makeSlice 54 (.int .i64 (n : Int)) (.int .i64 (n : Int))).run Try.prog w = .ok (.slice (some ⟨w.heap.size, 0, none⟩) n n) (w.alloc (.cells (eC (List.replicate n ⟨0, 0, 0, 0⟩)).toArray 35)) := by
  obtain ⟨i0, hi, hz, hs, hb⟩ := k_infoE
  have h := run_make (P := Try.prog) w 54 35 i0 (.agg #[.int .i64 0, .int .i64 0, .int .i64 0, .int .i64 0]) Try.underlying54 hi hz .i64 .i64 n n (by omega) (by omega) (by rw [hb]; omega) (by omega)
  rw [hs] at h
  simp only [Int.toNat_natCast] at h
  rw [h]
  congr 3
  rw [eC_zero]
  apply Array.ext
  · simp [madeCells]
  · intro i h1 h2
    simp [madeCells, Value.cells]
    rcases (show i % 4 = 0 ∨ i % 4 = 1 ∨ i % 4 = 2 ∨ i % 4 = 3 by omega) with e | e | e | e <;> rw [e] <;> rfl

def rneP (x y : RT) : Bool := !(x.k == y.k && (x.a == y.a && (x.t == y.t && x.e == y.e)))
theorem neq_end (uk ua ut ue bk ba bt be : Int) (W : World) : (binOp BinOp.neq 35 (.agg #[.int .i64 uk, .int .i64 ua, .int .i64 ut, .int .i64 ue]) (.agg #[.int .i64 bk, .int .i64 ba, .int .i64 bt, .int .i64 be])).run Try.prog W = .ok (.bool (rneP ⟨uk, ua, ut, ue⟩ ⟨bk, ba, bt, be⟩)) W := by
  unfold rneP
  by_cases h1 : uk = bk
  · subst h1
    by_cases h2 : ua = ba
    · subst h2
      by_cases h3 : ut = bt
      · subst h3
        by_cases h4 : ue = be
        · subst h4
          go_simp
        · go_simp
      · go_simp
    · go_simp
  · go_simp
def tbP (f : Int → Int) (b : RB) : RB := ⟨b.c, turnedP f b.t⟩
def anyP (f : Int → Int) (l : List RB) : Bool := l.any (fun b => rneP (turnedP f b.t) b.t)

/-- The first loop: of the first i blocks the ends are told. -/
structure TeI (w wr : World) (base g cap : Nat) (l : List RB) (ads : List (Option Addr × Nat)) (F : Nat → Nat) (B N R : Nat) (fin : List Int) (d : List RT) (i : Nat) : Prop where
  ext : Ext w wr
  up : w.heap.size ≤ B ∧ w.heap.size ≤ N ∧ w.heap.size ≤ R
  tr : TrS wr B N (some ⟨g, 0, none⟩) cap l.length fin
  inv : FinI F [] fin
  row : Row wr R 35 (eC d)
  len : d.length = l.length
  don : ∀ (k : Nat) (b : RB), k < i → l[k]? = some b → d[k]? = some (turnedP (fz l.length F) b.t)
theorem TeI.ne {w wr : World} {base g cap : Nat} {l : List RB} {ads : List (Option Addr × Nat)} {F : Nat → Nat} {B N R : Nat} {fin : List Int} {d : List RT} {i : Nat} (h : TeI w wr base g cap l ads F B N R fin d i) : R ≠ B ∧ R ≠ N := by
  have key : ∀ {q : Nat} {c1 c2 : List Value} {t1 t2 : TypeId}, Row wr q t1 c1 → Row wr q t2 c2 → t1 ≠ t2 → False := by
    intro q c1 c2 t1 t2 h1 h2 hne
    unfold Row at h1 h2
    rw [h1] at h2
    injection h2 with h2
    injection h2 with _ h2 _
    exact hne h2
  exact ⟨fun e => key (e ▸ h.row) h.tr.box (by decide), fun e => key (e ▸ h.row) h.tr.row (by decide)⟩
theorem TeI.rep {w wr : World} {base g cap : Nat} {l : List RB} {ads : List (Option Addr × Nat)} {F : Nat → Nat} {B N R : Nat} {fin : List Int} {d : List RT} {i : Nat} (h : TeI w wr base g cap l ads F B N R fin d i) (hb : BlS w base g cap l ads) {W : World} (x : Ext wr W) : RepB W (fun q => q < W.heap.size ∧ q ≠ N) (some ⟨g, 0, none⟩) l ads :=
  hb.rep.to fun q hq => ⟨⟨Nat.lt_of_lt_of_le hq.2 (h.ext.trans x).size, by have := h.up.2.1; omega⟩, (h.ext.trans x).block q hq.2⟩
theorem ext_up {w wr w2 : World} {N : Nat} (h : Ext w wr) (x : wr.grownBy w2 (some N)) (hN : w.heap.size ≤ N) : Ext w w2 :=
  ext_gb (gb_new (gb_ext h none) x hN)
/-- One end more. -/
theorem TeI.step {w wr w2 : World} {base g cap : Nat} {l : List RB} {ads : List (Option Addr × Nat)} {F : Nat → Nat} {B N R : Nat} {fin fin2 : List Int} {d : List RT} {i : Nat} {b : RB} {W : World} (h : TeI w wr base g cap l ads F B N R fin d i) (hi : l[i]? = some b) (x : Ext wr W)
    (k : FnI W w2 B N (some ⟨g, 0, none⟩) cap l.length F fin2) {u : RT} (hu : u = turnedP (fz l.length F) b.t) :
    TeI w ((((w2.setCell ⟨R, i * 4, none⟩ (.int .i64 u.k)).setCell ⟨R, i * 4 + 1, none⟩ (.int .i64 u.a)).setCell ⟨R, i * 4 + 2, none⟩ (.int .i64 u.t)).setCell ⟨R, i * 4 + 3, none⟩ (.int .i64 u.e)) base g cap l ads F B N R fin2 (d.set i u) (i + 1) := by
  obtain ⟨nB, nN⟩ := h.ne
  have hil := (List.getElem?_eq_some_iff.1 hi).1
  obtain ⟨t0, ht0⟩ : ∃ t0, d[i]? = some t0 := ⟨_, List.getElem?_eq_getElem (by rw [h.len]; exact hil)⟩
  have e2 := ext_up (h.ext.trans x) k.gb h.up.2.1
  have r2 : Row w2 R 35 (eC d) := gb_row k.gb (x.row h.row) nN
  have r3 := (((r2.set (i * 4) (.int .i64 u.k)).set (i * 4 + 1) (.int .i64 u.a)).set (i * 4 + 2) (.int .i64 u.t)).set (i * 4 + 3) (.int .i64 u.e)
  rw [eC_set ht0 u] at r3
  have hR := h.up.2.2
  refine ⟨(((e2.set hR _).set hR _).set hR _).set hR _, h.up, ⟨?_, ?_, k.tr.len⟩, k.inv, r3, by rw [List.length_set]; exact h.len, fun q b2 hq hb2 => ?_⟩
  · exact (((k.tr.box.other (Ne.symm nB) _ _).other (Ne.symm nB) _ _).other (Ne.symm nB) _ _).other (Ne.symm nB) _ _
  · exact (((k.tr.row.other (Ne.symm nN) _ _).other (Ne.symm nN) _ _).other (Ne.symm nN) _ _).other (Ne.symm nN) _ _
  · rw [List.getElem?_set]
    split
    · rename_i e
      subst e
      rw [hi] at hb2
      injection hb2 with hb2
      subst hb2
      rw [if_pos (by rw [h.len]; exact hil), hu]
    · exact h.don q b2 (by omega) hb2
/-- The second loop: the first i blocks have their ends. -/
structure TfI (w wr : World) (base g cap : Nat) (l l2 : List RB) (ads : List (Option Addr × Nat)) (f : Int → Int) (R : Nat) (d : List RT) (i : Nat) : Prop where
  gb : w.grownBy wr (some g)
  bl : BlS wr base g cap l2 ads
  row : Row wr R 35 (eC d)
  len : l2.length = l.length
  don : ∀ (k : Nat) (b : RB), k < i → l[k]? = some b → l2[k]? = some (tbP f b)
  rest : ∀ k : Nat, i ≤ k → l2[k]? = l[k]?
theorem TfI.on {w wr wz : World} {base g cap : Nat} {l l2 : List RB} {ads : List (Option Addr × Nat)} {f : Int → Int} {R : Nat} {d : List RT} {i : Nat} (h : TfI w wr base g cap l l2 ads f R d i) (x : Ext wr wz) : TfI w wz base g cap l l2 ads f R d i :=
  ⟨gb_trans h.gb (gb_ext x _), h.bl.on x, h.row.on x, h.len, h.don, h.rest⟩
theorem TfI.step {w wr : World} {base g cap : Nat} {l l2 : List RB} {ads : List (Option Addr × Nat)} {f : Int → Int} {R : Nat} {d : List RT} {i : Nat} {b : RB} (h : TfI w wr base g cap l l2 ads f R d i) (hi : l[i]? = some b) (hR : R ≠ g) {u : RT} (hu : u = turnedP f b.t) :
    TfI w ((((wr.setCell ⟨g, i * 5 + 1, none⟩ (.int .i64 u.k)).setCell ⟨g, i * 5 + 2, none⟩ (.int .i64 u.a)).setCell ⟨g, i * 5 + 3, none⟩ (.int .i64 u.t)).setCell ⟨g, i * 5 + 4, none⟩ (.int .i64 u.e)) base g cap l (l2.set i ⟨b.c, u⟩) ads f R d (i + 1) := by
  have hi2 : l2[i]? = some b := by rw [h.rest i (Nat.le_refl _)]; exact hi
  have hil := (List.getElem?_eq_some_iff.1 hi2).1
  refine ⟨gb_trans h.gb (gb_setT wr g i u), h.bl.setT hi2 u, (((h.row.other hR _ _).other hR _ _).other hR _ _).other hR _ _, by rw [List.length_set]; exact h.len, fun q b2 hq hb2 => ?_, fun q hq => ?_⟩
  · rw [List.getElem?_set]
    split
    · rename_i e
      subst e
      rw [hi] at hb2
      injection hb2 with hb2
      subst hb2
      first | rw [if_pos hil, hu] | rw [hu]
      rfl
    · exact h.don q b2 (by omega) hb2
  · rw [List.getElem?_set, if_neg (by omega)]
    exact h.rest q (by omega)
theorem TfI.done {w wr : World} {base g cap : Nat} {l l2 : List RB} {ads : List (Option Addr × Nat)} {f : Int → Int} {R : Nat} {d : List RT} (h : TfI w wr base g cap l l2 ads f R d l.length) : BlS wr base g cap (l.map (tbP f)) ads := by
  have : l2 = l.map (tbP f) := by
    apply List.ext_getElem?
    intro k
    by_cases hk : k < l.length
    · have hb := List.getElem?_eq_getElem hk
      rw [h.don k _ hk hb, List.getElem?_map, hb]
      rfl
    · rw [List.getElem?_eq_none (by rw [h.len]; omega), List.getElem?_eq_none (by simp; omega)]
  rw [← this]
  exact h.bl
theorem anyP_step (f : Int → Int) (l : List RB) (i : Nat) (b : RB) (h : l[i]? = some b) : anyP f (l.take (i + 1)) = (anyP f (l.take i) || rneP (turnedP f b.t) b.t) := by
  unfold anyP
  rw [List.take_add_one, h]
  simp

end Go.Proofs.Ytdnhekgbfhlhoaa
