/- GraphCircles: any graph, any points marked. -/
import Derived.Test.YtmhcecofknemkaaGrCd
import Derived.Test.YtmhcecofknemkaaGrCz
import Derived.Test.YtmhcecofknemkaaGrAw
set_option linter.unusedSimpArgs false
set_option linter.unusedVariables false
set_option maxRecDepth 10000
namespace Go.Proofs.Ytmhcecofknemkaa
open Go.RowKit

theorem gFew_few {g : List (List Int)} (h : gFew g = true) : g.length ≤ 40 ∧ ∀ l ∈ g, l.length ≤ 60 := by
  unfold gFew at h
  simp at h
  exact h

/-- Both tell the same. -/
theorem circles_same (g : List (List Int)) (pass : List Bool) (F : GW) (R : List Bool) (b1 b2 : Bool) (hF : gWalk g 100 = some F) (hR : rFrom (gNorm g) 0 (-1) 50 = some R) (hRl : R.length = g.length) (h40 : g.length ≤ 40) (h1 : b1 = true ↔ Circ (Edg g (cSh g.length pass F.shut)))
    (h2 : b2 = true ↔ ∃ i l, (rBare pass R 0 (gNorm g))[i]? = some l ∧ ∃ q ∈ l, Way (rBare pass R 0 (gNorm g)) (-1) q (0 + i)) : b1 = b2 := by
  have hsh := gWalk_reach g 100 50 F R hF hR hRl
  rw [hsh] at h1
  have he := bare_edge g pass R hRl (fun a b l hl hb ha => by
    rw [rFrom_on _ _ _ _ _ hR] at ha ⊢
    refine ⟨ha.1, ha.2.1, ha.2.2.1, .step ha.2.2.2 hl hb (by omega)⟩)
  have hw := way_rch (rBare pass R 0 (gNorm g)) _ he
  have : b1 = true ↔ b2 = true := by
    rw [h1, h2]
    constructor
    · rintro ⟨p, q, e, r⟩
      obtain ⟨l, hl, hq⟩ := (he p q).2 e
      exact ⟨p, l, hl, q, hq, by rw [Nat.zero_add]; exact (hw q p).2 r⟩
    · rintro ⟨i, l, hl, q, hq, r⟩
      rw [Nat.zero_add] at r
      exact ⟨i, q, (he i q).1 ⟨l, hl, hq⟩, (hw q i).1 r⟩
  cases b1 <;> cases b2 <;> simp_all

set_option maxHeartbeats 2000000 in
theorem circles_few (ga : Option Addr) (n gc : Nat) (pa : Option Addr) (m pc : Nat) (w : World) (HF : Calls Try.prog 16 #[.slice ga n gc] w fun e w' => e = .returned (.bool false) ∧ w' = w) :
    Calls Try.prog 7 #[.slice ga n gc, .slice pa m pc] w fun e w' => e = .returned (.bool true) ∧ Ext w w' := by
  have H1 := hide HF
  have H2 := hide (awake_w w)
  clear HF
  go_enter Try.func7, Try.ntmps7
  go_wp2_with (first
    | (go_at_call 16; refine Calls.mono (unhide H1) ?_; rintro e w1 ⟨rfl, hw⟩; obtain rfl := hw.symm)
    | (go_at_call 15; refine Calls.mono (unhide H2) ?_; rintro e w1 ⟨rfl, x1⟩; have X1 := hide x1; clear x1))
  go_ret
  exact ⟨rfl, unhide X1⟩
set_option maxHeartbeats 2000000 in
theorem circles_main (ga : Option Addr) (n gc : Nat) (pa : Option Addr) (m pc : Nat) (w : World) (b : Bool) (HF : Calls Try.prog 16 #[.slice ga n gc] w fun e w' => e = .returned (.bool true) ∧ w' = w)
    (HC : ∀ W, Ext w W → Calls Try.prog 13 #[.slice ga n gc, .slice pa m pc] W fun e w' => e = .returned (.bool b) ∧ Ext W w')
    (HD : ∀ W, Ext w W → Calls Try.prog 26 #[.slice ga n gc, .slice pa m pc] W fun e w' => e = .returned (.bool b) ∧ Ext W w') :
    Calls Try.prog 7 #[.slice ga n gc, .slice pa m pc] w fun e w' => e = .returned (.bool true) ∧ Ext w w' := by
  have H1 := hide HF
  have H2 := hide (HC w (Ext.refl _))
  have H3 := hide HD
  have H4 := hide awake_w
  clear HF HC HD
  have hbb : (b == b) = true := by cases b <;> rfl
  go_enter Try.func7, Try.ntmps7
  go_wp2_with (first
    | (go_at_call 16; refine Calls.mono (unhide H1) ?_; rintro e w1 ⟨rfl, hw⟩; obtain rfl := hw.symm)
    | (go_at_call 13; refine Calls.mono (unhide H2) ?_; rintro e w2 ⟨rfl, x2⟩; have X2 := hide x2; clear x2)
    | (go_at_call 26; refine Calls.mono (unhide H3 w2 (unhide X2)) ?_; rintro e w3 ⟨rfl, x3⟩; have X3 : Hd (Ext w w3) := (unhide X2).trans x3; clear x3)
    | (go_at_call 15; refine Calls.mono (unhide H4 w3) ?_; rintro e w4 ⟨rfl, x4⟩; have X4 : Hd (Ext w w4) := (unhide X3).trans x4; clear x4))
  go_ret
  exact ⟨rfl, unhide X4⟩

/-- Any graph, any points marked. -/
theorem circles_walk (ga : Option Addr) (gc : Nat) (g : List (List Int)) (pa : Option Addr) (pc : Nat) (pass : List Bool) (w : World) (hg : RepG w (In w) ga g) (hm : g.length ≤ maxLen) (hb : ∀ l ∈ g, l.length ≤ maxLen) (hp : RepB w (In w) pa pass) (hpm : pass.length ≤ maxLen) :
    Calls Try.prog 7 #[.slice ga g.length gc, .slice pa pass.length pc] w fun e w' => e = .returned (.bool true) ∧ Ext w w' := by
  have HF := few_w ga gc g w hg (by unfold maxLen at hm; omega) (fun l hl => by have := hb l hl; unfold maxLen at this; omega)
  unfold maxLen at hpm
  cases hfw : gFew g with
  | false => rw [hfw] at HF; exact circles_few ga g.length gc pa pass.length pc w HF
  | true =>
    rw [hfw] at HF
    obtain ⟨h40, h60⟩ := gFew_few hfw
    have hf : Few g := ⟨by omega, fun l hl => Nat.le_trans (h60 l hl) (by omega)⟩
    obtain ⟨F, hF, hW⟩ := gWalk_ends g 100 (by omega)
    obtain ⟨R, hR, hRl⟩ := rFrom_ends (gNorm g) 0 (-1) 50 (gNorm_pts g) (by rw [gNorm_len]; omega)
    rw [gNorm_len] at hRl
    obtain ⟨b1, e1, f1⟩ := gCyc_ends g pass 100 F hF (by omega)
    have hBp := rBare_pts pass R (gNorm g) (gNorm_pts g)
    have hBl : (rBare pass R 0 (gNorm g)).length = g.length := by rw [rBare_len, gNorm_len]
    obtain ⟨b2, e2, f2⟩ := rCirF_ends (rBare pass R 0 (gNorm g)) hBp 50 (by rw [hBl]; omega) (rBare pass R 0 (gNorm g)) 0 (fun i => by rw [Nat.zero_add])
    have e := circles_same g pass F R b1 b2 hF hR hRl h40 f1 f2
    subst e
    refine circles_main ga g.length gc pa pass.length pc w b1 HF (fun W h => ?_) (fun W h => ?_)
    · refine cyclic_w ga gc g pa pc pass W 100 b1 (hg.ext h) hf (hp.ext h) (by omega) ?_ e1
      have : (g.length + 1) * (100 + 1) ≤ 41 * 101 := Nat.mul_le_mul (by omega) (by omega)
      omega
    · exact rcyclic_w ga gc g pa pc pass W 50 60 R b1 (hg.ext h) hf (hp.ext h) (by omega) h60 (by omega) (by omega) hR hRl e2

end Go.Proofs.Ytmhcecofknemkaa
