/- A function's heights, a program's first error, a function's registers. · A function's registers; a program's first error. -/
import Derived.Test.YtlgdjeiendmniaaGreatDoorZg6
set_option linter.unusedSimpArgs false
set_option linter.unusedVariables false
set_option maxRecDepth 10000

namespace Go.Proofs.YtlgdjeiendmniaaGreatDoor.V
open Go.RowKit

def kHgt (fns : List KF) (fn : Int) (K : Nat) : Option (List Int × Int) :=
  if kForm fns fn then (match fns[fn.toNat]? with
    | none => none
    | some f => match kHts f.code K with
      | none => none
      | some none => some ([], 13)
      | some (some hs) => match kTicked f.code hs K with
        | none => none
        | some t => if t then some (hs, 0) else some ([], 14))
  else some ([], 3)

/-- What Heights tells. -/
def HgR (w : World) (q : List Int × Int) (e : Ending) (w' : World) : Prop :=
  ∃ ha hc, e = .returned (.tuple #[.slice ha q.1.length hc, .int .i64 q.2]) ∧ RepZ w' (Fr2 w w') ha q.1 ∧ (∀ x ∈ q.1, -1 ≤ x ∧ x ≤ 64) ∧ Ext w w'

/-- The bounds of a program's functions. -/
def KfB (fns : List KF) : Prop := ∀ f ∈ fns, f.cs.length ≤ 1000000 ∧ f.code.length ≤ 1000000 ∧ KBd f.code

theorem kLed_ge {i : KI} {j : Nat} (h : i.op = 7 ∨ i.op = 8 → 0 ≤ i.a) : ∀ x ∈ kLed i (j : Int), 0 ≤ x := by
  intro x hx
  unfold kLed kBoth at hx
  split at hx
  · simp at hx
  · split at hx
    · rename_i h7
      have := h (Or.inl h7)
      simp at hx
      omega
    · split at hx
      · rename_i h8
        have := h (Or.inr h8)
        split at hx
        · simp at hx; omega
        · split at hx
          · simp at hx; omega
          · simp at hx; omega
      · simp at hx; omega

theorem kForm_nb {fns : List KF} {j : Nat} {f : KF} (h : fns[j]? = some f) (hf : kForm fns (j : Int) = true) : KNb f.code := by
  rw [kForm_at h] at hf
  simp only [Bool.and_eq_true] at hf
  obtain ⟨_, _, _, _, _, hs⟩ := hf
  rw [List.all_eq_true] at hs
  intro k x hx
  unfold kNext at hx
  rw [if_neg (by omega), show ((k : Int)).toNat = k by omega] at hx
  cases hi : f.code[k]? with
  | none => rw [hi] at hx; simp at hx
  | some i =>
    rw [hi] at hx
    refine kLed_ge (fun h78 => ?_) x hx
    have := hs i (List.mem_of_getElem? hi)
    unfold kStand at this
    rw [if_neg (by omega)] at this
    simp only [Bool.and_eq_true] at this
    have hm := this.2
    unfold kMay at hm
    rw [if_neg (by omega), if_neg (by omega), if_pos h78] at hm
    have := of_decide_eq_true hm
    exact this.1

set_option maxHeartbeats 1000000 in
theorem heights_w (fns : List KF) (fn : Int) (pa : Option Addr) (pc : Nat) (m : Int) (K : Nat) (q : List Int × Int) (w : World) (hp : RepP w (In w) pa fns) (h0 : fns.length ≤ 1000000) (h1 : KfB fns) (hK : K ≤ 1000000) (hq : kHgt fns fn K = some q) :
    Calls Tryz.prog 10 #[kpV pa fns.length pc m, .int .i64 fn] w (HgR w q) := by
  have HF := hide (fun (W : World) (x : Ext w W) => hasForm_any fns fn pa pc m W (hp.ext x) h0 (fun f hf => ⟨(h1 f hf).1, (h1 f hf).2.1⟩))
  have HX0 : Hd (∀ o1 : Obj, Ext w (w.alloc o1)) := fun o1 => Ext.alloc _ _
  unfold kHgt at hq
  cases hf : kForm fns fn with
  | false =>
    rw [hf] at HF hq
    rw [if_neg (by decide)] at hq
    injection hq with hq
    subst hq
    clear hp h1
    generalize fns.length = NP at *
    go_enter Tryz.func10, Tryz.ntmps10
    go_wp2_with (go_at_call 21; refine Calls.mono (unhide HF _ (unhide HX0 _)) ?_; rintro e w1 ⟨rfl, hw⟩; have X1 := hide ((unhide HX0 _).trans hw); clear hw)
    exact bodyPost_ret (v := .tuple #[.slice none 0 0, .int .i64 3]) (by simp [results, Tryz.results10, go_sem]) rfl ⟨none, 0, rfl, Or.inl rfl, by simp, unhide X1⟩
  | true =>
    rw [hf, if_pos rfl] at hq
    have hx : 0 ≤ fn ∧ fn < (fns.length : Int) := Decidable.byContradiction fun h => by rw [kForm_out h] at hf; cases hf
    obtain ⟨z, rfl⟩ : ∃ z : Nat, fn = z := ⟨fn.toNat, by omega⟩
    obtain ⟨f, hg⟩ : ∃ f, fns[z]? = some f := ⟨_, List.getElem?_eq_getElem (by omega)⟩
    rw [show ((z : Int)).toNat = z by omega, hg] at hq
    simp only at hq
    rw [hf] at HF
    obtain ⟨b, o, ca, cc, ka, kc, rfl, _, c0, c1, c2, c3, c4, r1, r2⟩ := hp.at hg
    obtain ⟨hl1, hl2, hl3⟩ := h1 f (List.mem_of_getElem? hg)
    have hnb := kForm_nb hg hf
    have hz : z < fns.length := by omega
    have HC4 : Hd (∀ W, Ext w W → W.cell? ⟨b, o + z * 5 + 4, none⟩ = some (.slice ka f.code.length kc)) := fun W x => x.cell c4
    cases hh : kHts f.code K with
    | none => rw [hh] at hq; cases hq
    | some hr =>
    rw [hh] at hq
    have HH := hide (fun (W : World) (x : Ext w W) => heightsOf_w f.code ka kc K hr W (r2.ext x) hl3 hnb hl2 (by omega) hh)
    have HT := hide (fun (W : World) (x : Ext w W) (hs : List Int) (ha : Option Addr) (hcap : Nat) (r : Bool) (hh : RepZ W (In W) ha hs) (hl : hs.length = f.code.length) => ticked_w f.code hs ka ha kc hcap K r W (r2.ext x) hh hl hl2 hK)
    have HL : Hd (∀ hs : List Int, hs.length = f.code.length → hs.length = f.code.length) := fun _ h => h
    clear hg hf hp h1 r1 r2 hx c0 c1 c2 c3 c4 hl3 hnb hh
    cases hr with
    | none =>
      simp only at hq
      injection hq with hq
      subst hq
      generalize fns.length = NP at *
      generalize f.code.length = KS at *
      go_enter Tryz.func10, Tryz.ntmps10
      go_wp2_with (first
        | (go_at_call 21; refine Calls.mono (unhide HF _ (unhide HX0 _)) ?_; rintro e w1 ⟨rfl, hw⟩; have X1 := hide ((unhide HX0 _).trans hw); have k0 := hw.box 0 rfl; have k1 := hw.box 1 rfl; have d4 := unhide HC4 w1 (unhide X1); clear hw)
        | (go_at_call 22; refine Calls.mono (unhide HH w1 (unhide X1)) ?_; rintro e w2 ⟨rfl, hw⟩; have X2 := hide ((unhide X1).trans hw); clear hw))
      exact bodyPost_ret (v := .tuple #[.slice none 0 0, .int .i64 13]) (by simp [results, Tryz.results10, go_sem]) rfl ⟨none, 0, rfl, Or.inl rfl, by simp, unhide X2⟩
    | some hs =>
      simp only at hq
      cases ht : kTicked f.code hs K with
      | none => rw [ht] at hq; cases hq
      | some t =>
      rw [ht] at hq
      simp only at hq
      have HT2 : Hd (∀ (W : World) (x : Ext w W) (ha : Option Addr) (hcap : Nat) (hh : RepZ W (In W) ha hs) (hl : hs.length = f.code.length), Calls Tryz.prog 23 #[.slice ka f.code.length kc, .slice ha f.code.length hcap] W fun e w' => e = .returned (.bool t) ∧ Ext W w') := fun W x ha hcap hh hl => unhide HT W x hs ha hcap t hh hl ht
      clear HT ht
      generalize fns.length = NP at *
      generalize hKS : f.code.length = KS at *
      cases t with
      | false =>
        rw [if_neg (by decide)] at hq
        injection hq with hq
        subst hq
        go_enter Tryz.func10, Tryz.ntmps10
        go_wp2_with (first
          | (go_at_call 21; refine Calls.mono (unhide HF _ (unhide HX0 _)) ?_; rintro e w1 ⟨rfl, hw⟩; have X1 := hide ((unhide HX0 _).trans hw); have k0 := hw.box 0 rfl; have k1 := hw.box 1 rfl; have d4 := unhide HC4 w1 (unhide X1); clear hw)
          | (go_at_call 22; refine Calls.mono (unhide HH w1 (unhide X1)) ?_; rintro e w2 ⟨hl, hb, rfl, hz2, hw⟩; have X2 := hide ((unhide X1).trans hw); have Z2 := hide hz2; have L2 := hide hl; clear hw hz2 hl hb)
          | (go_at_call 23; refine Calls.mono (unhide HT2 w2 (unhide X2) _ _ (unhide Z2).inn (unhide L2)) ?_; rintro e w3 ⟨rfl, hw⟩; have X3 := hide ((unhide X2).trans hw); clear hw))
        exact bodyPost_ret (v := .tuple #[.slice none 0 0, .int .i64 14]) (by simp [results, Tryz.results10, go_sem]) rfl ⟨none, 0, rfl, Or.inl rfl, by simp, unhide X3⟩
      | true =>
        rw [if_pos rfl] at hq
        injection hq with hq
        subst hq
        go_enter Tryz.func10, Tryz.ntmps10
        go_wp2_with (first
          | (go_at_call 21; refine Calls.mono (unhide HF _ (unhide HX0 _)) ?_; rintro e w1 ⟨rfl, hw⟩; have X1 := hide ((unhide HX0 _).trans hw); have k0 := hw.box 0 rfl; have k1 := hw.box 1 rfl; have d4 := unhide HC4 w1 (unhide X1); clear hw)
          | (go_at_call 22; refine Calls.mono (unhide HH w1 (unhide X1)) ?_; rintro e w2 ⟨hl, hb, rfl, hz2, hw⟩; have X2 := hide ((unhide X1).trans hw); have Z2 := hide hz2; have Y2 := hide (hz2.up (unhide X1)); have L2 := hide hl; have B2 := hide hb; clear hw hz2 hl hb)
          | (go_at_call 23; refine Calls.mono (unhide HT2 w2 (unhide X2) _ _ (unhide Z2).inn (unhide L2)) ?_; rintro e w3 ⟨rfl, hw⟩; have X3 := hide ((unhide X2).trans hw); have Y3 := hide ((unhide Y2).onn hw); clear hw))
        refine bodyPost_ret (v := .tuple #[.slice (some ⟨w1.heap.size, 0, none⟩) KS KS, .int .i64 0]) (by simp [results, Tryz.results10, go_sem]) rfl ⟨_, KS, ?_, unhide Y3, unhide B2, unhide X3⟩
        have := unhide L2
        simp only
        rw [this]

end Go.Proofs.YtlgdjeiendmniaaGreatDoor.V

namespace Go.Proofs.YtlgdjeiendmniaaGreatDoor.V
open Go.RowKit

/-- The greatest height. -/
def kMost : List Int → Int → Int
  | [], n => n
  | x :: r, n => kMost r (if x < n then n else x)
def kVirt (fns : List KF) (fn : Int) (K : Nat) : Option (Int × Int) :=
  match kHgt fns fn K with
  | none => none
  | some q => if q.2 = 0 then (match fns[fn.toNat]? with
    | none => none
    | some f => if 200 < f.lc + kMost q.1 0 then some (0, 5) else some (f.lc + kMost q.1 0, 0)) else some (0, q.2)
def kChkL (fns : List KF) (K : Nat) : Nat → Nat → Option Int
  | 0, _ => some 0
  | m + 1, j => match kHgt fns (j : Int) K with
    | none => none
    | some q => if q.2 = 0 then kChkL fns K m (j + 1) else some q.2
def kChk (fns : List KF) (m : Int) (K : Nat) : Option Int :=
  if 16 < fns.length then some 3 else if kPl m fns.length then (match fns[m.toNat]? with
    | none => none
    | some f => if f.ps = 0 then kChkL fns K fns.length 0 else some 3) else some 3

theorem kMost_drop {l : List Int} {k : Nat} {x : Int} (h : l[k]? = some x) (n : Int) : kMost (l.drop k) n = kMost (l.drop (k + 1)) (if x < n then n else x) := by
  obtain ⟨h1, h2⟩ := List.getElem?_eq_some_iff.1 h
  rw [List.drop_eq_getElem_cons h1, h2, kMost]
theorem kMost_b {l : List Int} (h : ∀ x ∈ l, -1 ≤ x ∧ x ≤ 64) : ∀ n, 0 ≤ n → n ≤ 64 → 0 ≤ kMost l n ∧ kMost l n ≤ 64 := by
  induction l with
  | nil => intro n h1 h2; exact ⟨h1, h2⟩
  | cons x r ih =>
    intro n h1 h2
    rw [kMost]
    have hx := h x (List.mem_cons_self ..)
    refine ih (fun y hy => h y (List.mem_cons_of_mem _ hy)) _ ?_ ?_
    all_goals split <;> omega

set_option maxHeartbeats 1000000 in
theorem greatest_any (hs : List Int) (ha : Option Addr) (hc : Nat) (w : World) (hr : RepZ w (In w) ha hs) (hn : hs.length ≤ 1000000) :
    Calls Tryz.prog 12 #[.slice ha hs.length hc] w fun e w' => e = .returned (.int .i64 (kMost hs 0)) ∧ w' = w := by
  obtain ⟨T, hT⟩ : ∃ T, T = kMost hs 0 := ⟨_, rfl⟩
  rw [← hT]
  have HT : Hd (kMost (hs.drop 0) 0 = T) := hT.symm
  have HR := hide hr
  clear hT hr
  generalize hN : hs.length = n at *
  go_enter Tryz.func12, Tryz.ntmps12
  go_wp2_with fail
  go_loopw [3, 8] (fun t3 t wr => ∃ (k : Nat) (y : Int), t = .int .i64 k ∧ t3 = .int .i64 y ∧ k ≤ n ∧ Hd (kMost (hs.drop k) y = T) ∧ wr = w) (fun _ t _ => n - (intOf t).toNat)
  case atStart => exact ⟨0, 0, rfl, rfl, by omega, HT, rfl⟩
  case round =>
    clear HT
    obtain ⟨k, y, rfl, rfl, hk, hE, rfl⟩ := hrel
    by_cases hlt : k < n
    · obtain ⟨x, hx⟩ : ∃ x, hs[k]? = some x := ⟨_, List.getElem?_eq_getElem (by omega)⟩
      have hE2 := unhide hE
      rw [kMost_drop hx] at hE2
      obtain ⟨hb, rfl, hcell⟩ : ∃ hb, ha = some ⟨hb, 0, none⟩ ∧ wr.cell? ⟨hb, k, none⟩ = some (.int .i64 x) := by
        rcases unhide HR with h | ⟨hb, e, _, hc⟩
        · rw [h] at hx; simp at hx
        · exact ⟨hb, e, hc k x hx⟩
      clear hx
      by_cases hxy : x < y
      · rw [if_pos hxy] at hE2
        have HE2 := hide hE2
        clear hE2
        go_wp2_with fail
        go_roundw
        case rel => exact ⟨k + 1, y, by go_num, by go_num, by omega, HE2, by first | rfl | trivial⟩
        case measure => simp [intOf]; omega
      · rw [if_neg hxy] at hE2
        have HE2 := hide hE2
        clear hE2
        go_wp2_with fail
        go_roundw
        case rel => exact ⟨k + 1, x, by go_num, by go_num, by omega, HE2, by first | rfl | trivial⟩
        case measure => simp [intOf]; omega
    · obtain rfl : k = n := by omega
      have HE2 : Hd (y = T) := by
        have := unhide hE
        rw [List.drop_eq_nil_of_le (by omega)] at this
        exact this
      go_wp2_with fail
      rw [← unhide HE2]
      go_ret
      exact ⟨rfl, rfl⟩

theorem registers_any (a b : Int) (w : World) (h1 : -1000000 ≤ a ∧ a ≤ 1000000) (h2 : -1000000 ≤ b ∧ b ≤ 1000000) (q : Int × Int) (hq : (if 200 < a + b then ((0, 5) : Int × Int) else (a + b, 0)) = q) :
    Calls Tryz.prog 11 #[.int .i64 a, .int .i64 b] w fun e w' => e = .returned (.tuple #[.int .i64 q.1, .int .i64 q.2]) ∧ w' = w := by
  by_cases h : 200 < a + b
  · rw [if_pos h] at hq
    subst hq
    go_enter Tryz.func11, Tryz.ntmps11
    go_wp2_with fail
    exact bodyPost_ret (v := .tuple #[.int .i64 0, .int .i64 5]) (by simp [results, Tryz.results11, go_sem]) rfl ⟨rfl, rfl⟩
  · rw [if_neg h] at hq
    subst hq
    go_enter Tryz.func11, Tryz.ntmps11
    go_wp2_with fail
    exact bodyPost_ret (v := .tuple #[.int .i64 (a + b), .int .i64 0]) (by simp [results, Tryz.results11, go_sem]) rfl ⟨rfl, rfl⟩

theorem Ext.drewNk (w : World) (n : Nat) : Ext w (w.drewN n) := by
  induction n with
  | zero => exact Ext.refl _
  | succ n ih => exact Ext.drew ih

theorem kRun_len (code : List KI) : ∀ (k : Nat) (st r : KW), kRun code k st = some r → r.hs.length = st.hs.length := by
  intro k
  induction k with
  | zero => intro st r h; rw [kRun] at h; cases h
  | succ k ih =>
    intro st r h
    rw [kRun] at h
    split at h
    · injection h with h; rw [h]
    · split at h
      · injection h with h; rw [h]
      · rw [ih _ _ h]
        exact (kLeave_len code _ _).1
theorem kHts_len {code : List KI} {K : Nat} {hs : List Int} (h : kHts code K = some (some hs)) : hs.length = code.length := by
  unfold kHts at h
  cases hr : kRun code K (kCome code.length ⟨List.replicate code.length (-1), [], false⟩ 0 0) with
  | none => rw [hr] at h; cases h
  | some st =>
    rw [hr] at h
    simp only at h
    split at h
    · simp at h
    · injection h with h
      injection h with h
      rw [← h, kRun_len code _ _ _ hr, (kCome_len _ _ _ _).1]
      simp

theorem kHgt_at {fns : List KF} {fn : Int} {K : Nat} {q : List Int × Int} (h : kHgt fns fn K = some q) (h0 : q.2 = 0) : ∃ (z : Nat) (f : KF), fn = z ∧ z < fns.length ∧ fns[z]? = some f ∧ -1000000 ≤ f.lc ∧ f.lc ≤ 1000000 := by
  unfold kHgt at h
  cases hf : kForm fns fn with
  | false =>
    rw [hf, if_neg (by decide)] at h
    injection h with h
    subst h
    simp at h0
  | true =>
    have hx : 0 ≤ fn ∧ fn < (fns.length : Int) := Decidable.byContradiction fun h => by rw [kForm_out h] at hf; cases hf
    obtain ⟨z, rfl⟩ : ∃ z : Nat, fn = z := ⟨fn.toNat, by omega⟩
    obtain ⟨f, hg⟩ : ∃ f, fns[z]? = some f := ⟨_, List.getElem?_eq_getElem (by omega)⟩
    rw [kForm_at hg] at hf
    simp only [Bool.and_eq_true] at hf
    obtain ⟨a1, a2, a3, _⟩ := hf
    have a1 := of_decide_eq_true a1
    have a2 := of_decide_eq_true a2
    have a3 := of_decide_eq_true a3
    exact ⟨z, f, rfl, by omega, hg, by omega, by omega⟩

set_option maxHeartbeats 1000000 in
theorem virtual_w (fns : List KF) (fn : Int) (pa : Option Addr) (pc : Nat) (m : Int) (K : Nat) (v : Int × Int) (w : World) (hp : RepP w (In w) pa fns) (h0 : fns.length ≤ 1000000) (h1 : KfB fns) (hK : K ≤ 1000000) (hv : kVirt fns fn K = some v) :
    Calls Tryz.prog 7 #[kpV pa fns.length pc m, .int .i64 fn] w fun e w' => e = .returned (.tuple #[.int .i64 v.1, .int .i64 v.2]) ∧ Ext w w' := by
  have HX0 : Hd (∀ o1 : Obj, Ext w (w.alloc o1)) := fun o1 => Ext.alloc _ _
  unfold kVirt at hv
  cases hq : kHgt fns fn K with
  | none => rw [hq] at hv; cases hv
  | some q =>
  rw [hq] at hv
  simp only at hv
  have HH := hide (fun (W : World) (x : Ext w W) => heights_w fns fn pa pc m K q W (hp.ext x) h0 h1 hK hq)
  by_cases hq0 : q.2 = 0
  · rw [if_pos hq0] at hv
    obtain ⟨z, f, rfl, hz, hg, hl1, hl2⟩ := kHgt_at hq hq0
    rw [show ((z : Int)).toNat = z by omega, hg] at hv
    simp only at hv
    obtain ⟨b, o, ca, cc, ka, kc, rfl, _, c0, c1, c2, c3, c4, r1, r2⟩ := hp.at hg
    have HC2 : Hd (∀ W, Ext w W → W.cell? ⟨b, o + z * 5 + 2, none⟩ = some (.int .i64 f.lc)) := fun W x => x.cell c2
    obtain ⟨hs, er⟩ := q
    simp only at hq0 hv HH
    subst hq0
    have HG := hide (fun (W : World) (ha : Option Addr) (hc : Nat) (hr : RepZ W (In W) ha hs) (hn : hs.length ≤ 1000000) => greatest_any hs ha hc W hr hn)
    have HV : Hd ((∀ x ∈ hs, -1 ≤ x ∧ x ≤ 64) → ∀ W, Calls Tryz.prog 11 #[.int .i64 f.lc, .int .i64 (kMost hs 0)] W fun e w' => e = .returned (.tuple #[.int .i64 v.1, .int .i64 v.2]) ∧ w' = W) := fun hb W => by
      have hm := kMost_b hb 0 (by omega) (by omega)
      refine registers_any _ _ W ⟨hl1, hl2⟩ ⟨by omega, by omega⟩ v ?_
      by_cases h2 : 200 < f.lc + kMost hs 0
      · rw [if_pos h2] at hv ⊢; injection hv
      · rw [if_neg h2] at hv ⊢; injection hv
    have HL : Hd (hs.length ≤ 1000000) := by
      unfold kHgt at hq
      cases hf : kForm fns (z : Int) with
      | false => rw [hf, if_neg (by decide)] at hq; injection hq with hq; injection hq with e1 e2; cases e2
      | true =>
        rw [hf, if_pos rfl, show ((z : Int)).toNat = z by omega, hg] at hq
        simp only at hq
        cases hh : kHts f.code K with
        | none => rw [hh] at hq; cases hq
        | some hr =>
          rw [hh] at hq
          cases hr with
          | none => simp at hq
          | some hs2 =>
            simp only at hq
            cases ht : kTicked f.code hs2 K with
            | none => rw [ht] at hq; cases hq
            | some t =>
              rw [ht] at hq
              simp only at hq
              split at hq
              · injection hq with hq
                injection hq with e1 e2
                subst e1
                have hlen : hs2.length = f.code.length := kHts_len hh
                rw [hlen]; exact (h1 f (List.mem_of_getElem? hg)).2.1
              · simp at hq
    clear hg hq hp h1 r1 r2 c0 c1 c2 c3 c4 hv
    generalize fns.length = NP at *
    generalize f.lc = FL at *
    generalize kMost hs 0 = MH at *
    generalize v.1 = v1 at *
    generalize v.2 = v2 at *
    go_enter Tryz.func7, Tryz.ntmps7
    go_wp2_with (go_at_call 10; refine Calls.mono (unhide HH _ (unhide HX0 _)) ?_; rintro e w1 ⟨ha, hc, rfl, hz1, hb, hw⟩; have X1 := hide ((unhide HX0 _).trans hw); have k0 := hw.box 0 rfl; have k1 := hw.box 1 rfl; have d2 := unhide HC2 w1 (unhide X1); have G1 : Hd (∀ W : World, Ext w1 W → Calls Tryz.prog 12 #[.slice ha hs.length hc] W fun e w' => e = .returned (.int .i64 MH) ∧ w' = W) := (fun W x => unhide HG W ha hc (hz1.inn.ext x) (unhide HL)); have V1 := hide (unhide HV hb); clear hw hz1 hb)
    go_quiet ((first | (go_at_call 12; exact Calls.quiet_of_same (unhide G1 _ (Ext.drewNk _ _))) | (go_at_call 11; exact Calls.quiet_of_same (unhide V1 _))))
    go_wp2_with fail
    exact bodyPost_ret (v := .tuple #[.int .i64 v1, .int .i64 v2]) (by simp [results, Tryz.results7, go_sem]) rfl ⟨rfl, (unhide X1).trans (Ext.drewNk _ _)⟩
  · rw [if_neg hq0] at hv
    injection hv with hv
    subst hv
    have hqb : (q.2 != 0) = true := by simp [hq0]
    clear hq hp h1 hq0
    obtain ⟨hs, er⟩ := q
    simp only at hqb HH ⊢
    generalize fns.length = NP at *
    go_enter Tryz.func7, Tryz.ntmps7
    go_wp2_with (go_at_call 10; refine Calls.mono (unhide HH _ (unhide HX0 _)) ?_; rintro e w1 ⟨ha, hc, rfl, hz1, hb, hw⟩; have X1 := hide ((unhide HX0 _).trans hw); clear hw hz1 hb)
    exact bodyPost_ret (v := .tuple #[.int .i64 0, .int .i64 er]) (by simp [results, Tryz.results7, go_sem]) rfl ⟨rfl, unhide X1⟩

theorem kChkL_step (fns : List KF) (K : Nat) {n k : Nat} (hk : k < n) : kChkL fns K (n - k) k = match kHgt fns (k : Int) K with
    | none => none
    | some q => if q.2 = 0 then kChkL fns K (n - (k + 1)) (k + 1) else some q.2 := by
  rw [show n - k = (n - (k + 1)) + 1 by omega, kChkL]

end Go.Proofs.YtlgdjeiendmniaaGreatDoor.V
