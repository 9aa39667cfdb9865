/- The law GraphNests: any number. -/
import Derived.Test.YtifpdifjabhemabGrAw
set_option linter.unusedSimpArgs false
set_option linter.unusedVariables false
set_option maxRecDepth 10000
namespace Go.Proofs.Ytifpdifjabhemab
open Go.RowKit

def nG1 (j : Nat) : List (List Int) := (List.range j).map (fun i => [((i + 1 : Nat) : Int)])
def nG2 (n k : Nat) : List (List Int) := (List.range k).map (fun k => [((n - 1 - k : Nat) : Int), ((n + k + 1 : Nat) : Int)])
def nG (n : Nat) : List (List Int) := nG1 n ++ nG2 n n ++ [[]]
theorem nG1_succ (j : Nat) : nG1 (j + 1) = nG1 j ++ [[(j : Int) + 1]] := by simp [nG1, List.range_succ]
theorem nG2_succ (n k : Nat) (a b : Int) (ha : a = ((n - 1 - k : Nat) : Int)) (hb : b = ((n + k + 1 : Nat) : Int)) : nG1 n ++ nG2 n (k + 1) = nG1 n ++ nG2 n k ++ [[a, b]] := by
  subst ha hb
  simp [nG2, List.range_succ]
theorem nG1_len (j : Nat) : (nG1 j).length = j := by simp [nG1]
theorem nG2_len (n k : Nat) : (nG2 n k).length = k := by simp [nG2]
def nOk (n : Nat) : Bool := (decide ((nG n).length ≤ 100) && (nG n).all (fun l => decide (l.length ≤ 10))) && ((gPreds (nG n)).all (fun l => decide (l.length ≤ 30)) && match gLoops (nG n) 300 with
  | none => false
  | some F => decide (F.length = n) && (List.range n).all (fun i => match F[i]? with
    | none => false
    | some x => decide (x.head = i) && (decide (oI x.ins = (i : Int) - 1) && decide (x.body.length = 2 * (n - i)))))
theorem nOk_all : (List.range 12).all (fun n => nOk (n + 1)) = true := by kernel_rfl
theorem nOk_gives (n : Nat) (h1 : 1 ≤ n) (h2 : n ≤ 12) : Few (nG n) ∧ (nG n).length ≤ 100 ∧ (∀ l ∈ gPreds (nG n), l.length ≤ 30) ∧ ∃ F, gLoops (nG n) 300 = some F ∧ F.length = n ∧ ∀ i, i < n → ∃ x, F[i]? = some x ∧ x.head = i ∧ oI x.ins = (i : Int) - 1 ∧ x.body.length = 2 * (n - i) := by
  have h := List.all_eq_true.1 nOk_all (n - 1) (by simp; omega)
  rw [show n - 1 + 1 = n by omega] at h
  unfold nOk at h
  simp only [Bool.and_eq_true, decide_eq_true_eq, List.all_eq_true] at h
  obtain ⟨⟨q1, q2⟩, q3, q4⟩ := h
  refine ⟨⟨by omega, fun l hl => by have := q2 l hl; omega⟩, q1, q3, ?_⟩
  split at q4
  · cases q4
  · rename_i F hF
    simp only [Bool.and_eq_true, decide_eq_true_eq, List.all_eq_true] at q4
    refine ⟨F, hF, q4.1, fun i hi => ?_⟩
    have := q4.2 i (by simpa using hi)
    split at this
    · cases this
    · rename_i x hx
      simp only [Bool.and_eq_true, decide_eq_true_eq] at this
      exact ⟨x, hx, this.1, this.2.1, this.2.2⟩

def slI : List (List Int) → List (Option Addr × Nat) → List Value
  | l :: r, a :: s => .slice a.1 l.length a.2 :: slI r s
  | _, _ => []
theorem slI_app : ∀ (ls : List (List Int)) (ads : List (Option Addr × Nat)) (l : List Int) (a : Option Addr × Nat), ads.length = ls.length → slI (ls ++ [l]) (ads ++ [a]) = slI ls ads ++ [.slice a.1 l.length a.2]
  | [], [], x, a, h => rfl
  | [], _ :: _, x, a, h => by simp at h
  | _ :: _, [], x, a, h => by simp at h
  | y :: r, b :: s, x, a, h => by
    have := slI_app r s x a (by simpa using h)
    rw [List.cons_append, List.cons_append, slI, this, slI]
    rfl
theorem slI_at : ∀ (ls : List (List Int)) (ads : List (Option Addr × Nat)) (i : Nat) (l : List Int) (a : Option Addr × Nat), ls[i]? = some l → ads[i]? = some a → (slI ls ads)[i]? = some (.slice a.1 l.length a.2)
  | [], ads, i, l, a, h1, h2 => by simp at h1
  | _ :: _, [], i, l, a, h1, h2 => by simp at h2
  | x :: r, y :: s, 0, l, a, h1, h2 => by simp at h1 h2; subst h1 h2; rfl
  | x :: r, y :: s, i + 1, l, a, h1, h2 => by rw [slI]; exact slI_at r s i l a (by simpa using h1) (by simpa using h2)

/-- A graph under way. -/
structure GbS (w0 w : World) (ls : List (List Int)) (ads : List (Option Addr × Nat)) (ga : Option Addr) (gc : Nat) : Prop where
  ext : Ext w0 w
  len : ads.length = ls.length
  oG : w.ownsRow w0.heap.size 23 1 (.slice ga ls.length gc) ls.length (slI ls ads)
  rep : ∀ (i : Nat) (l : List Int) (a : Option Addr × Nat), ls[i]? = some l → ads[i]? = some a → RepI w (fun q => q < w.heap.size ∧ obk ga ≠ some q) a.1 l

theorem GbS.add {w0 w W w3 : World} {ls : List (List Int)} {ads : List (Option Addr × Nat)} {ga : Option Addr} {gc : Nat} {ob : Obj} {g' cap' : Nat} (h : GbS w0 w ls ads ga gc) (x : Ext w W) (l : List Int) (a : Option Addr × Nat) (hl : RepI W (fun q => w.heap.size ≤ q ∧ q < W.heap.size) a.1 l)
    (g1 : (W.alloc ob).grownBy w3 (Value.slice ga ls.length gc).ownBlock)
    (ho : w3.ownsRow w0.heap.size 23 1 (.slice (some ⟨g', 0, none⟩) (ls.length + 1) cap') (ls.length + 1) (slI ls ads ++ [.slice a.1 l.length a.2]))
    (hw : (Value.slice ga ls.length gc).ownBlock = some g' ∨ W.heap.size + 1 ≤ g') :
    GbS w0 w3 (ls ++ [l]) (ads ++ [a]) (some ⟨g', 0, none⟩) cap' := by
  rw [obk_eq] at g1 hw
  have xs := x.size
  have hz : (W.alloc ob).heap.size = W.heap.size + 1 := sz1 _ _
  have hs3 := g1.size
  have glt : ∀ q, obk ga = some q → q < w.heap.size := fun q e => (h.oG.lt q (by rw [obk_eq]; exact e)).2
  have e3 : Ext w0 w3 := by
    refine Below.grown ((h.ext.trans x).trans (Ext.alloc W ob)) g1 ((h.ext.trans x).trans (Ext.alloc W ob)).size ?_
    intro j hj
    exact (h.oG.lt j (by rw [obk_eq]; exact hj)).1
  have kp : ∀ q, q < W.heap.size → obk ga ≠ some q → w3.heap[q]? = W.heap[q]? := fun q hq hne => (g1.block q (by omega) (Ne.symm hne)).trans ((Ext.alloc W ob).block q hq)
  have ng : ∀ q, q < W.heap.size → obk ga ≠ some q → obk (some (⟨g', 0, none⟩ : Addr)) ≠ some q := fun q hq hne e => by
    simp only [obk, Value.ownBlock, Option.some.injEq] at e
    subst e
    rcases hw with e | e
    · exact hne e
    · omega
  refine ⟨e3, by simp [h.len], by rw [slI_app _ _ _ _ h.len, List.length_append]; exact ho, fun i l2 a2 h1 h2 => ?_⟩
  by_cases hi : i < ls.length
  · rw [List.getElem?_append_left hi] at h1
    rw [List.getElem?_append_left (by rw [h.len]; exact hi)] at h2
    refine (h.rep i l2 a2 h1 h2).to (fun q hq => ⟨⟨by omega, ng q (by omega) hq.2⟩, (kp q (by omega) hq.2).trans (x.block q hq.1)⟩)
  · have h1' := (List.getElem?_eq_some_iff.1 h1).1
    rw [List.length_append] at h1'
    simp only [List.length_cons, List.length_nil] at h1'
    obtain rfl : i = ls.length := by omega
    rw [List.getElem?_append_right (by omega), Nat.sub_self] at h1
    rw [List.getElem?_append_right (by rw [h.len]; omega), h.len, Nat.sub_self] at h2
    injection h1 with h1
    injection h2 with h2
    subst h1 h2
    have hne : ∀ q, w.heap.size ≤ q → obk ga ≠ some q := fun q hq e => by have := glt q e; omega
    exact hl.to (fun q hq => ⟨⟨by omega, ng q hq.2 (hne q hq.1)⟩, kp q hq.2 (hne q hq.1)⟩)
theorem GbS.graph {w0 w : World} {ls : List (List Int)} {ads : List (Option Addr × Nat)} {ga : Option Addr} {gc : Nat} (h : GbS w0 w ls ads ga gc) : RepG w (In w) ga ls := by
  by_cases h0 : ls = []
  · exact Or.inl h0
  · rcases id h.oG.2 with ⟨e, e0⟩ | ⟨g, cap, cur, e, hb, hg, hn, _⟩
    · exact absurd (List.length_eq_zero_iff.1 e0) h0
    · injection e with e1 e2 e3
      subst e1 e3
      refine Or.inr ⟨g, 0, rfl, k_lt hg, fun j l hl => ?_⟩
      have hj := (List.getElem?_eq_some_iff.1 hl).1
      obtain ⟨a, ha⟩ : ∃ a, ads[j]? = some a := ⟨_, List.getElem?_eq_getElem (by rw [h.len]; exact hj)⟩
      have := h.oG.cells (g := g) rfl j _ (slI_at ls ads j l a hl ha)
      rw [k_add] at this
      exact ⟨a.1, a.2, by rw [Nat.zero_add]; exact this, (h.rep j l a hl ha).to (fun q hq => ⟨hq.1, rfl⟩)⟩
theorem one_sl (a : Option Addr) (n c : Nat) : ∀ u ∈ ([.slice a n c] : List Value), u.oneCell' = true := by
  intro u hu
  simp at hu
  subst hu
  rfl
theorem rep_new (W : World) (l : List Int) (b : Nat) (hb : b = W.heap.size) : RepI (W.alloc (.cells (zs l).toArray 3)) (fun q => W.heap.size ≤ q ∧ q < (W.alloc (.cells (zs l).toArray 3)).heap.size) (some ⟨b, 0, none⟩) l := by
  subst hb
  refine Or.inr ⟨_, 0, rfl, ⟨Nat.le_refl _, by rw [sz1]; omega⟩, fun j x hx => ?_⟩
  rw [Nat.zero_add]
  exact (Row.new W (zs l) 3).cell j (by simp [zs, hx])
theorem n_mask (a : Int) (k : Nat) (hk : 0 < k) : ∃ n : Nat, (bits .and .i64 a 65535).tmod (k : Int) = n ∧ n < k := by
  have h : ∃ n : Nat, bits .and .i64 a 65535 = n ∧ n ≤ 65535 := by
    refine ⟨(BitVec.ofInt 64 a &&& BitVec.ofInt 64 65535).toNat, ?_, ?_⟩
    · have hl : (BitVec.ofInt 64 a &&& BitVec.ofInt 64 65535).toNat ≤ 65535 := by
        rw [BitVec.toNat_and]; exact Nat.and_le_right
      show IntKind.wrap .i64 ((BitVec.ofInt 64 a &&& BitVec.ofInt 64 65535).toNat : Int) = _
      generalize (BitVec.ofInt 64 a &&& BitVec.ofInt 64 65535).toNat = n at hl
      have e : IntKind.wrap .i64 (n : Int) = if (true && decide ((n : Int) % (18446744073709551616 : Int) ≥ (9223372036854775808 : Int))) = true then (n : Int) % 18446744073709551616 - 18446744073709551616 else (n : Int) % 18446744073709551616 := rfl
      rw [e]
      have : decide ((n : Int) % (18446744073709551616 : Int) ≥ (9223372036854775808 : Int)) = false := by
        rw [decide_eq_false_iff_not]; omega
      rw [this]
      simp only [Bool.and_false, Bool.false_eq_true, if_false]
      omega
    · rw [BitVec.toNat_and]; exact Nat.and_le_right
  obtain ⟨n, hn, _⟩ := h
  refine ⟨n % k, ?_, Nat.mod_lt _ hk⟩
  rw [hn]
  exact (Int.ofNat_tmod n k).symm

set_option maxHeartbeats 8000000 in
theorem nests_walk (a0 : Int) (w : World) : Calls Try.prog 3 #[.int .i64 a0] w fun e w' => e = .returned (.bool true) ∧ Ext w w' := by
  obtain ⟨n0, hn0, hn1⟩ := n_mask a0 12 (by decide)
  have hn0 : (bits .and .i64 a0 65535).tmod 12 = n0 := hn0
  obtain ⟨n, hn⟩ : ∃ n, n = n0 + 1 := ⟨_, rfl⟩
  have hn2 : (n0 : Int) + 1 = (n : Int) := by omega
  obtain ⟨hfew, hlen, hpd, F, hF, hFl, hFx⟩ := nOk_gives n (by omega) (by omega)
  have HLp := hide (fun (W : World) (ga : Option Addr) (gc : Nat) (hg : RepG W (In W) ga (nG n)) => loops_w ga gc (nG n) W 300 30 F hg hfew (by omega) hpd (by omega) (by omega) hF)
  have HAw := hide awake_w
  have HFx := hide hFx
  obtain ⟨i0, hi, hz0, hz1, hz2⟩ := k_infoS
  have HI := hide hi
  have Z0 := hide hz0
  have Z1 := hide hz1
  have Z2 := hide hz2
  have hnn : n ≤ 12 := by omega
  have hn1' : 1 ≤ n := by omega
  clear hi hz0 hz1 hz2 hfew hpd hF hFx hn
  go_enter Try.func3, Try.ntmps3
  go_wp2_with fail
  go_loopw [3, 4] (fun t3 t4 wr => ∃ (j : Nat) (ads : List (Option Addr × Nat)) (ga : Option Addr) (gc : Nat), t3 = .slice ga j gc ∧ t4 = .int .i64 (j : Int) ∧ j ≤ n ∧ Hd (GbS w wr (nG1 j) ads ga gc)) (fun _ t _ => n - (intOf t).toNat)
  case atStart => exact ⟨0, [], none, 0, rfl, rfl, by omega, ⟨Ext.refl w, rfl, World.ownsRow_nil _ _ _ _, fun i l a h => by simp [nG1] at h⟩⟩
  case round =>
    obtain ⟨j, ads, ga, gc, rfl, rfl, hj, hI⟩ := hrel
    have hgl := nG1_len j
    by_cases hlt : j < n
    · have HO : Hd (∀ o1 o2, ((wr.alloc o1).alloc o2).ownsRow w.heap.size 23 1 (.slice ga j gc) j (slI (nG1 j) ads)) := fun o1 o2 => by
        have := (unhide hI).oG
        rw [hgl] at this
        exact k_own_heap this (fun q hq => ((Ext.alloc _ o2).block q (by rw [sz1]; have := (this.lt q hq).2; omega)).trans ((Ext.alloc wr o1).block q (this.lt q hq).2))
      have HLe := hide (unhide hI).ext.size
      have hlt2 : (j : Int) < (n : Int) := by omega
      go_wp2_with (at_builtin; refine kapp_list rfl (.tmp 18) (.tmp 22) 22 rfl w.heap.size 23 i0 (.slice none 0 0) 1 24 Try.underlying22 (unhide HI) (unhide Z0) (unhide Z1) (unhide Z2) rfl (by decide) ga j gc _ rfl (unhide HO _ _) ⟨wr.heap.size + 1, 0, none⟩ 1 1 [.slice (some ⟨wr.heap.size, 0, none⟩) 1 1] rfl (by decide) rfl (k_new _ _ (sz1 _ _).symm _ _) (one_sl _ _ _) ?c1 ?c2 ?c3 ?_)
      case c1 => unfold maxLen; omega
      case c2 => omega
      case c3 => exact Nat.le_trans (unhide HLe) (Nat.le_trans (Ext.alloc _ _).size (Ext.alloc _ _).size)
      intro g' cap' w3 ho hgr hw
      have S3 : Hd (GbS w w3 (nG1 (j + 1)) (ads ++ [(some ⟨wr.heap.size, 0, none⟩, 1)]) (some ⟨g', 0, none⟩) cap') := by
        unfold Hd
        rw [nG1_succ]
        refine (unhide hI).add (Ext.alloc wr (.cells (zs [(j : Int) + 1]).toArray 3)) [(j : Int) + 1] (some ⟨wr.heap.size, 0, none⟩, 1) (rep_new wr _ _ rfl) (ob := .cells #[.slice (some ⟨wr.heap.size, 0, none⟩) 1 1] 23) ?_ ?_ ?_
        · rw [hgl]; exact hgr
        · rw [hgl]; exact ho
        · rw [hgl]; exact hw.imp id (fun e => by rw [sz1]; omega)
      clear ho hgr hw
      go_wp2_with fail
      go_roundw
      case rel => exact ⟨j + 1, _, _, _, rfl, by go_num, by omega, S3⟩
      case measure => simp [intOf]; omega
    · obtain rfl : j = n := by omega
      have HI1 : Hd (GbS w wr (nG1 j ++ nG2 j 0) ads ga gc) := by
        have : nG1 j ++ nG2 j 0 = nG1 j := by simp [nG2]
        unfold Hd
        rw [this]
        exact unhide hI
      go_wp2_with fail
      go_loopw [3, 5] (fun t3 t5 wr => ∃ (k : Nat) (y : Int) (ads : List (Option Addr × Nat)) (ga : Option Addr) (gc : Nat), t3 = .slice ga (j + k) gc ∧ t5 = .int .i64 y ∧ y + (k : Int) + 1 = (j : Int) ∧ k ≤ j ∧ Hd (GbS w wr (nG1 j ++ nG2 j k) ads ga gc)) (fun _ t _ => (intOf t + 1).toNat)
      case atStart => exact ⟨0, (j : Int) - 1, ads, ga, gc, by first | rfl | simp, by first | rfl | go_num, by omega, by omega, HI1⟩
      case round =>
        clear HI1 hI
        obtain ⟨k, y, ads, ga, gc, rfl, rfl, hy, hk, hI⟩ := hrel
        have hgl2 : (nG1 j ++ nG2 j k).length = j + k := by rw [List.length_append, nG1_len, nG2_len]
        by_cases hy0 : 0 ≤ y
        · obtain ⟨q, rfl⟩ := Int.eq_ofNat_of_zero_le hy0
          have HO : Hd (∀ o1 o2, ((wr.alloc o1).alloc o2).ownsRow w.heap.size 23 1 (.slice ga (j + k) gc) (j + k) (slI (nG1 j ++ nG2 j k) ads)) := fun o1 o2 => by
            have := (unhide hI).oG
            rw [hgl2] at this
            exact k_own_heap this (fun q hq => ((Ext.alloc _ o2).block q (by rw [sz1]; have := (this.lt q hq).2; omega)).trans ((Ext.alloc wr o1).block q (this.lt q hq).2))
          have HLe := hide (unhide hI).ext.size
          go_wp2_with (at_builtin; refine kapp_list rfl (.tmp 32) (.tmp 37) 22 rfl w.heap.size 23 i0 (.slice none 0 0) 1 24 Try.underlying22 (unhide HI) (unhide Z0) (unhide Z1) (unhide Z2) rfl (by decide) ga (j + k) gc _ rfl (unhide HO _ _) ⟨wr.heap.size + 1, 0, none⟩ 1 1 [.slice (some ⟨wr.heap.size, 0, none⟩) 2 2] rfl (by decide) rfl (k_new _ _ (sz1 _ _).symm _ _) (one_sl _ _ _) ?c1 ?c2 ?c3 ?_)
          case c1 => unfold maxLen; omega
          case c2 => omega
          case c3 => exact Nat.le_trans (unhide HLe) (Nat.le_trans (Ext.alloc _ _).size (Ext.alloc _ _).size)
          intro g' cap' w3 ho hgr hw
          have S3 : Hd (GbS w w3 (nG1 j ++ nG2 j (k + 1)) (ads ++ [(some ⟨wr.heap.size, 0, none⟩, 2)]) (some ⟨g', 0, none⟩) cap') := by
            unfold Hd
            rw [nG2_succ j k (q : Int) (((j + k : Nat) : Int) + 1) (by omega) (by omega)]
            refine (unhide hI).add (Ext.alloc wr (.cells (zs [(q : Int), ((j + k : Nat) : Int) + 1]).toArray 3)) [(q : Int), ((j + k : Nat) : Int) + 1] (some ⟨wr.heap.size, 0, none⟩, 2) (rep_new wr _ _ rfl) (ob := .cells #[.slice (some ⟨wr.heap.size, 0, none⟩) 2 2] 23) ?_ ?_ ?_
            · rw [hgl2]; exact hgr
            · rw [hgl2]; exact ho
            · rw [hgl2]; exact hw.imp id (fun e => by rw [sz1]; omega)
          clear ho hgr hw
          go_wp2_with fail
          go_roundw
          case rel => exact ⟨k + 1, (q : Int) - 1, _, _, _, rfl, by go_num, by omega, by omega, S3⟩
          case measure => simp [intOf]
        · obtain rfl : y = -1 := by omega
          obtain rfl : k = j := by omega
          have HO : Hd (∀ o2, (wr.alloc o2).ownsRow w.heap.size 23 1 (.slice ga (k + k) gc) (k + k) (slI (nG1 k ++ nG2 k k) ads)) := fun o2 => by
            have := (unhide hI).oG
            rw [hgl2] at this
            exact k_own_heap this (fun q hq => (Ext.alloc wr o2).block q (this.lt q hq).2)
          have HLe := hide (unhide hI).ext.size
          go_wp2_with (at_builtin; refine kapp_list rfl (.tmp 39) (.tmp 40) 22 rfl w.heap.size 23 i0 (.slice none 0 0) 1 24 Try.underlying22 (unhide HI) (unhide Z0) (unhide Z1) (unhide Z2) rfl (by decide) ga (k + k) gc _ rfl (unhide HO _) ⟨wr.heap.size, 0, none⟩ 1 1 [.slice none 0 0] rfl (by decide) rfl (k_new _ _ rfl _ _) (one_sl _ _ _) ?c1 ?c2 ?c3 ?_)
          case c1 => unfold maxLen; omega
          case c2 => omega
          case c3 => have := unhide HLe; omega
          intro g' cap' w3 ho hgr hw
          have S3 : Hd (GbS w w3 (nG k) (ads ++ [(none, 0)]) (some ⟨g', 0, none⟩) cap') := by
            refine (unhide hI).add (Ext.refl wr) [] (none, 0) (Or.inl rfl) (ob := .cells #[.slice none 0 0] 23) ?_ ?_ ?_
            · rw [hgl2]; exact hgr
            · rw [hgl2]; exact ho
            · rw [hgl2]; exact hw.imp id (fun e => by omega)
          have hgl3 : (nG k).length = k + k + 1 := by unfold nG; rw [List.length_append, hgl2]; rfl
          have HC := hide (unhide HLp w3 _ cap' (unhide S3).graph)
          rw [hgl3] at HC
          obtain ⟨x0, hx0, _⟩ := unhide HFx 0 (by omega)
          have Hx0 := hide hx0
          clear ho hgr hw hx0
          go_wp2_with (go_at_call 4; refine Calls.mono (unhide HC) ?_; rintro e w4 ⟨wz, pb, pl, ads4, la, lc, rfl, x4, s4⟩; rw [hFl]; obtain ⟨gl, a4, rfl, hlc, _⟩ := s4.at (unhide Hx0); rw [hFl] at hlc; have X4 := hide ((unhide S3).ext.trans (x4.trans s4.ext)); have S4 := hide s4; clear x4 s4)
          go_loopw [8] (fun t wr => ∃ (i : Nat), t = .int .i64 (i : Int) ∧ i ≤ k ∧ Hd (LpS wz wr pb pl F ads4 (some ⟨gl, 0, none⟩) lc) ∧ Hd (Ext w wr)) (fun t _ => k - (intOf t).toNat)
          case atStart => exact ⟨0, rfl, by omega, S4, X4⟩
          case round =>
            clear S4 X4
            obtain ⟨i, rfl, hi, hS, hX⟩ := hrel
            by_cases hlt : i < k
            · obtain ⟨x, hx, hx1, hx2, hx3⟩ := unhide HFx i hlt
              obtain ⟨gl2, a, hgl4, _, _, k0, k1, k2, _⟩ := (unhide hS).at hx
              injection hgl4 with hgl4
              injection hgl4 with hgl4
              subst hgl4
              rw [hx1] at k0
              rw [hx2] at k2
              rw [hx3] at k1
              obtain ⟨m, hm⟩ : ∃ m, m = 2 * (k - i) := ⟨_, rfl⟩
              have hm2 : 2 * ((k : Int) - (i : Int)) = (m : Int) := by omega
              rw [← hm] at k1
              have hlt2 : (i : Int) < (k : Int) := by omega
              have hmb : m ≤ 100 := by omega
              clear hx hx1 hx2 hx3 hm
              go_wp2_with fail
              go_roundw
              case rel => exact ⟨i + 1, by go_num, by omega, hS, hX⟩
              case measure => simp [intOf]; omega
            · obtain rfl : i = k := by omega
              go_wp2_with (go_at_call 5; refine Calls.mono (unhide HAw _) ?_; rintro e w5 ⟨rfl, x5⟩; have X5 := hide ((unhide hX).trans x5); clear x5)
              go_ret
              exact ⟨rfl, unhide X5⟩

end Go.Proofs.Ytifpdifjabhemab
