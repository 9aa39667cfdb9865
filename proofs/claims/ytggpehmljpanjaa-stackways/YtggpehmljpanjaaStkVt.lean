/- A function's heights, a program's first error, a function's registers. -/
import Derived.Test.YtggpehmljpanjaaStkHs
set_option linter.unusedSimpArgs false
set_option linter.unusedVariables false
set_option maxRecDepth 10000
namespace Go.Proofs.Ytggpehmljpanjaa
open Go.RowKit

def kHgt (fns : List KF) (fn : Int) (K : Nat) : Option (List Int × Int) :=
  if kForm fns fn then (match fns[fn.toNat]? with
    | none => none
    | some f => match kHts f.code K with
      | none => none
      | some none => some ([], 13)
      | some (some hs) => match kTicked f.code hs K with
        | none => none
        | some t => if t then some (hs, 0) else some ([], 14))
  else some ([], 3)

/-- What Heights tells. -/
def HgR (w : World) (q : List Int × Int) (e : Ending) (w' : World) : Prop :=
  ∃ ha hc, e = .returned (.tuple #[.slice ha q.1.length hc, .int .i64 q.2]) ∧ RepZ w' (Fr2 w w') ha q.1 ∧ (∀ x ∈ q.1, -1 ≤ x ∧ x ≤ 64) ∧ Ext w w'

/-- The bounds of a program's functions. -/
def KfB (fns : List KF) : Prop := ∀ f ∈ fns, f.cs.length ≤ 1000000 ∧ f.code.length ≤ 1000000 ∧ KBd f.code

theorem kLed_ge {i : KI} {j : Nat} (h : i.op = 7 ∨ i.op = 8 → 0 ≤ i.a) : ∀ x ∈ kLed i (j : Int), 0 ≤ x := by
  intro x hx
  unfold kLed kBoth at hx
  split at hx
  · simp at hx
  · split at hx
    · rename_i h7
      have := h (Or.inl h7)
      simp at hx
      omega
    · split at hx
      · rename_i h8
        have := h (Or.inr h8)
        split at hx
        · simp at hx; omega
        · split at hx
          · simp at hx; omega
          · simp at hx; omega
      · simp at hx; omega

theorem kForm_nb {fns : List KF} {j : Nat} {f : KF} (h : fns[j]? = some f) (hf : kForm fns (j : Int) = true) : KNb f.code := by
  rw [kForm_at h] at hf
  simp only [Bool.and_eq_true] at hf
  obtain ⟨_, _, _, _, _, hs⟩ := hf
  rw [List.all_eq_true] at hs
  intro k x hx
  unfold kNext at hx
  rw [if_neg (by omega), show ((k : Int)).toNat = k by omega] at hx
  cases hi : f.code[k]? with
  | none => rw [hi] at hx; simp at hx
  | some i =>
    rw [hi] at hx
    refine kLed_ge (fun h78 => ?_) x hx
    have := hs i (List.mem_of_getElem? hi)
    unfold kStand at this
    rw [if_neg (by omega)] at this
    simp only [Bool.and_eq_true] at this
    have hm := this.2
    unfold kMay at hm
    rw [if_neg (by omega), if_neg (by omega), if_pos h78] at hm
    have := of_decide_eq_true hm
    exact this.1

set_option maxHeartbeats 1000000 in
theorem heights_w (fns : List KF) (fn : Int) (pa : Option Addr) (pc : Nat) (m : Int) (K : Nat) (q : List Int × Int) (w : World) (hp : RepP w (In w) pa fns) (h0 : fns.length ≤ 1000000) (h1 : KfB fns) (hK : K ≤ 1000000) (hq : kHgt fns fn K = some q) :
    Calls Try.prog 17 #[kpV pa fns.length pc m, .int .i64 fn] w (HgR w q) := by
  have HF := hide (fun (W : World) (x : Ext w W) => hasForm_any fns fn pa pc m W (hp.ext x) h0 (fun f hf => ⟨(h1 f hf).1, (h1 f hf).2.1⟩))
  have HX0 : Hd (∀ o1 : Obj, Ext w (w.alloc o1)) := fun o1 => Ext.alloc _ _
  unfold kHgt at hq
  cases hf : kForm fns fn with
  | false =>
    rw [hf] at HF hq
    rw [if_neg (by decide)] at hq
    injection hq with hq
    subst hq
    clear hp h1
    generalize fns.length = NP at *
    go_enter Try.func17, Try.ntmps17
    go_wp2_with (go_at_call 22; refine Calls.mono (unhide HF _ (unhide HX0 _)) ?_; rintro e w1 ⟨rfl, hw⟩; have X1 := hide ((unhide HX0 _).trans hw); clear hw)
    exact bodyPost_ret (v := .tuple #[.slice none 0 0, .int .i64 3]) (by simp [results, Try.results17, go_sem]) rfl ⟨none, 0, rfl, Or.inl rfl, by simp, unhide X1⟩
  | true =>
    rw [hf, if_pos rfl] at hq
    have hx : 0 ≤ fn ∧ fn < (fns.length : Int) := Decidable.byContradiction fun h => by rw [kForm_out h] at hf; cases hf
    obtain ⟨z, rfl⟩ : ∃ z : Nat, fn = z := ⟨fn.toNat, by omega⟩
    obtain ⟨f, hg⟩ : ∃ f, fns[z]? = some f := ⟨_, List.getElem?_eq_getElem (by omega)⟩
    rw [show ((z : Int)).toNat = z by omega, hg] at hq
    simp only at hq
    rw [hf] at HF
    obtain ⟨b, o, ca, cc, ka, kc, rfl, _, c0, c1, c2, c3, c4, r1, r2⟩ := hp.at hg
    obtain ⟨hl1, hl2, hl3⟩ := h1 f (List.mem_of_getElem? hg)
    have hnb := kForm_nb hg hf
    have hz : z < fns.length := by omega
    have HC4 : Hd (∀ W, Ext w W → W.cell? ⟨b, o + z * 5 + 4, none⟩ = some (.slice ka f.code.length kc)) := fun W x => x.cell c4
    cases hh : kHts f.code K with
    | none => rw [hh] at hq; cases hq
    | some hr =>
    rw [hh] at hq
    have HH := hide (fun (W : World) (x : Ext w W) => heightsOf_w f.code ka kc K hr W (r2.ext x) hl3 hnb hl2 (by omega) hh)
    have HT := hide (fun (W : World) (x : Ext w W) (hs : List Int) (ha : Option Addr) (hcap : Nat) (r : Bool) (hh : RepZ W (In W) ha hs) (hl : hs.length = f.code.length) => ticked_w f.code hs ka ha kc hcap K r W (r2.ext x) hh hl hl2 hK)
    have HL : Hd (∀ hs : List Int, hs.length = f.code.length → hs.length = f.code.length) := fun _ h => h
    clear hg hf hp h1 r1 r2 hx c0 c1 c2 c3 c4 hl3 hnb hh
    cases hr with
    | none =>
      simp only at hq
      injection hq with hq
      subst hq
      generalize fns.length = NP at *
      generalize f.code.length = KS at *
      go_enter Try.func17, Try.ntmps17
      go_wp2_with (first
        | (go_at_call 22; refine Calls.mono (unhide HF _ (unhide HX0 _)) ?_; rintro e w1 ⟨rfl, hw⟩; have X1 := hide ((unhide HX0 _).trans hw); have k0 := hw.box 0 rfl; have k1 := hw.box 1 rfl; have d4 := unhide HC4 w1 (unhide X1); clear hw)
        | (go_at_call 23; refine Calls.mono (unhide HH w1 (unhide X1)) ?_; rintro e w2 ⟨rfl, hw⟩; have X2 := hide ((unhide X1).trans hw); clear hw))
      exact bodyPost_ret (v := .tuple #[.slice none 0 0, .int .i64 13]) (by simp [results, Try.results17, go_sem]) rfl ⟨none, 0, rfl, Or.inl rfl, by simp, unhide X2⟩
    | some hs =>
      simp only at hq
      cases ht : kTicked f.code hs K with
      | none => rw [ht] at hq; cases hq
      | some t =>
      rw [ht] at hq
      simp only at hq
      have HT2 : Hd (∀ (W : World) (x : Ext w W) (ha : Option Addr) (hcap : Nat) (hh : RepZ W (In W) ha hs) (hl : hs.length = f.code.length), Calls Try.prog 24 #[.slice ka f.code.length kc, .slice ha f.code.length hcap] W fun e w' => e = .returned (.bool t) ∧ Ext W w') := fun W x ha hcap hh hl => unhide HT W x hs ha hcap t hh hl ht
      clear HT ht
      generalize fns.length = NP at *
      generalize hKS : f.code.length = KS at *
      cases t with
      | false =>
        rw [if_neg (by decide)] at hq
        injection hq with hq
        subst hq
        go_enter Try.func17, Try.ntmps17
        go_wp2_with (first
          | (go_at_call 22; refine Calls.mono (unhide HF _ (unhide HX0 _)) ?_; rintro e w1 ⟨rfl, hw⟩; have X1 := hide ((unhide HX0 _).trans hw); have k0 := hw.box 0 rfl; have k1 := hw.box 1 rfl; have d4 := unhide HC4 w1 (unhide X1); clear hw)
          | (go_at_call 23; refine Calls.mono (unhide HH w1 (unhide X1)) ?_; rintro e w2 ⟨hl, hb, rfl, hz2, hw⟩; have X2 := hide ((unhide X1).trans hw); have Z2 := hide hz2; have L2 := hide hl; clear hw hz2 hl hb)
          | (go_at_call 24; refine Calls.mono (unhide HT2 w2 (unhide X2) _ _ (unhide Z2).inn (unhide L2)) ?_; rintro e w3 ⟨rfl, hw⟩; have X3 := hide ((unhide X2).trans hw); clear hw))
        exact bodyPost_ret (v := .tuple #[.slice none 0 0, .int .i64 14]) (by simp [results, Try.results17, go_sem]) rfl ⟨none, 0, rfl, Or.inl rfl, by simp, unhide X3⟩
      | true =>
        rw [if_pos rfl] at hq
        injection hq with hq
        subst hq
        go_enter Try.func17, Try.ntmps17
        go_wp2_with (first
          | (go_at_call 22; refine Calls.mono (unhide HF _ (unhide HX0 _)) ?_; rintro e w1 ⟨rfl, hw⟩; have X1 := hide ((unhide HX0 _).trans hw); have k0 := hw.box 0 rfl; have k1 := hw.box 1 rfl; have d4 := unhide HC4 w1 (unhide X1); clear hw)
          | (go_at_call 23; refine Calls.mono (unhide HH w1 (unhide X1)) ?_; rintro e w2 ⟨hl, hb, rfl, hz2, hw⟩; have X2 := hide ((unhide X1).trans hw); have Z2 := hide hz2; have Y2 := hide (hz2.up (unhide X1)); have L2 := hide hl; have B2 := hide hb; clear hw hz2 hl hb)
          | (go_at_call 24; refine Calls.mono (unhide HT2 w2 (unhide X2) _ _ (unhide Z2).inn (unhide L2)) ?_; rintro e w3 ⟨rfl, hw⟩; have X3 := hide ((unhide X2).trans hw); have Y3 := hide ((unhide Y2).onn hw); clear hw))
        refine bodyPost_ret (v := .tuple #[.slice (some ⟨w1.heap.size, 0, none⟩) KS KS, .int .i64 0]) (by simp [results, Try.results17, go_sem]) rfl ⟨_, KS, ?_, unhide Y3, unhide B2, unhide X3⟩
        have := unhide L2
        simp only
        rw [this]

end Go.Proofs.Ytggpehmljpanjaa
