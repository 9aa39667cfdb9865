/- What is come to, by the document. -/
import Derived.Test.YtpfjafjpijmckaaGrRg
set_option linter.unusedSimpArgs false
set_option linter.unusedVariables false
set_option maxRecDepth 10000
namespace Go.Proofs.Ytpfjafjpijmckaa
open Go.RowKit

theorem gNormL_bd (n : Nat) : ∀ (l : List Int) (o : List Nat), (gNormL n l o).length ≤ o.length + l.length
  | [], o => by simp [gNormL]
  | x :: r, o => by
    rw [gNormL]
    have := gNormL_bd n r (if gPt n x && !gHas x o then o ++ [x.toNat] else o)
    refine Nat.le_trans this ?_
    split
    · simp only [List.length_append, List.length_cons, List.length_nil]; omega
    · simp only [List.length_cons]; omega
theorem gNorm_bd (g : List (List Int)) (D : Nat) (h : ∀ l ∈ g, l.length ≤ D) : ∀ l ∈ gNorm g, l.length ≤ D := by
  intro l hl
  unfold gNorm at hl
  obtain ⟨l0, h0, rfl⟩ := List.mem_map.1 hl
  have := gNormL_bd g.length l0 []
  have := h l0 h0
  simp only [List.length_nil] at *
  omega
theorem gNorm_len (g : List (List Int)) : (gNorm g).length = g.length := by simp [gNorm]

set_option maxHeartbeats 2000000 in
theorem rreach_w (ga : Option Addr) (gc : Nat) (g : List (List Int)) (w : World) (K D : Nat) (F : List Bool) (hg : RepG w (In w) ga g) (hf : Few g) (hD : ∀ l ∈ g, l.length ≤ D) (hD1 : D ≤ 1000000) (hKD : 1 + K * D ≤ 100000000) (hF : rFrom (gNorm g) 0 (-1) K = some F) :
    Calls Try.prog 21 #[.slice ga g.length gc] w (RFromE w F) := by
  have H1 := hide (norm_w ga gc g w hg hf)
  have hn : (gNorm g).length ≤ 1000000 := by rw [gNorm_len]; exact hf.1
  have H2 := hide (fun (W : World) (P : Nat) (h : RepG W (In W) (some ⟨P, 0, none⟩) (gUpG (gNorm g))) => rfrom_w (some ⟨P, 0, none⟩) (gNorm g).length (gNorm g) 0 (-1) W K D F h hn (gNorm_bd g D hD) hKD hD1 hF)
  clear hg hf hD hF
  go_enter Try.func21, Try.ntmps21
  go_wp2_with (first
    | (go_at_call 38; refine Calls.mono (unhide H1) ?_; rintro e w1 ⟨P, ads, rfl, s1⟩; have S1 := hide s1; clear s1)
    | (go_at_call 39; refine Calls.mono (unhide H2 w1 P (unhide S1).graph) ?_; rintro e w2 ⟨On, rfl, b2, r2, x2⟩; have B2 := hide b2; have R2 := hide r2; have X2 := hide x2; clear b2 r2 x2))
  go_ret
  exact ⟨On, rfl, Nat.le_trans (unhide S1).ext.size (unhide B2), unhide R2, (unhide S1).ext.trans (unhide X2)⟩

/-- Lists of points alone. -/
def Pts (ls : List (List Nat)) : Prop := ∀ l ∈ ls, ∀ q ∈ l, q < ls.length
theorem gNormL_pts (n : Nat) : ∀ (l : List Int) (o : List Nat), (∀ q ∈ o, q < n) → ∀ q ∈ gNormL n l o, q < n
  | [], o, h => by rw [gNormL]; exact h
  | x :: r, o, h => by
    rw [gNormL]
    refine gNormL_pts n r _ (fun q hq => ?_)
    split at hq
    · rename_i hc
      rcases List.mem_append.1 hq with hq | hq
      · exact h q hq
      · rw [List.mem_singleton.1 hq]
        simp [gPt] at hc
        omega
    · exact h q hq
theorem gNorm_pts (g : List (List Int)) : Pts (gNorm g) := by
  intro l hl q hq
  rw [gNorm_len]
  unfold gNorm at hl
  obtain ⟨l0, _, rfl⟩ := List.mem_map.1 hl
  exact gNormL_pts g.length l0 [] (fun q hq => by cases hq) q hq
theorem rScan_ends (n : Nat) (bar : Int) : ∀ (l : List Nat) (on' : List Bool) (todo : List Nat), on'.length = n → (∀ q ∈ l, q < n) → (∀ q ∈ todo, q < n) → ∃ R, rScan bar l on' todo = some R ∧ R.1.length = n ∧ unsh R.1 + R.2.length = unsh on' + todo.length ∧ ∀ q ∈ R.2, q < n
  | [], on', todo, h1, h2, h3 => ⟨_, rfl, h1, rfl, h3⟩
  | q :: r, on', todo, h1, h2, h3 => by
    have hq := h2 q (List.mem_cons_self ..)
    have hr : ∀ t ∈ r, t < n := fun t ht => h2 t (List.mem_cons_of_mem _ ht)
    rw [rScan]
    split
    · exact rScan_ends n bar r on' todo h1 hr h3
    · obtain ⟨b, hb⟩ : ∃ b, on'[q]? = some b := ⟨_, List.getElem?_eq_getElem (by rw [h1]; exact hq)⟩
      rw [hb]
      cases b with
      | true => exact rScan_ends n bar r on' todo h1 hr h3
      | false =>
        have hu := unsh_set on' q hb
        obtain ⟨R, e1, e2, e3, e4⟩ := rScan_ends n bar r (on'.set q true) (todo ++ [q]) (by rw [List.length_set]; exact h1) hr (fun t ht => by
          rcases List.mem_append.1 ht with ht | ht
          · exact h3 t ht
          · rw [List.mem_singleton.1 ht]; exact hq)
        refine ⟨R, e1, e2, ?_, e4⟩
        rw [e3, List.length_append]
        simp only [List.length_cons, List.length_nil]
        omega
theorem rRun_ends (ls : List (List Nat)) (bar : Int) (hp : Pts ls) : ∀ (k : Nat) (on' : List Bool) (todo : List Nat), on'.length = ls.length → (∀ q ∈ todo, q < ls.length) → unsh on' + todo.length + 1 ≤ k → ∃ F, rRun ls bar k on' todo = some F ∧ F.length = ls.length
  | 0, on', todo, h1, h2, hk => by omega
  | k + 1, on', todo, h1, h2, hk => by
    rw [rRun]
    cases hg : todo.getLast? with
    | none => exact ⟨on', rfl, h1⟩
    | some p =>
      have hm := List.mem_of_getLast? hg
      have hpn := h2 p hm
      obtain ⟨l, hl⟩ : ∃ l, ls[p]? = some l := ⟨_, List.getElem?_eq_getElem hpn⟩
      simp only
      rw [hl]
      simp only
      have hlen : todo.dropLast.length + 1 = todo.length := by
        rw [List.length_dropLast]
        have := List.length_pos_of_mem hm
        omega
      obtain ⟨⟨on2, todo2⟩, e1, e2, e3, e4⟩ := rScan_ends ls.length bar l on' todo.dropLast h1 (hp l (List.mem_of_getElem? hl)) (fun q hq => h2 q (List.dropLast_subset _ hq))
      rw [e1]
      simp only at e2 e3 e4 ⊢
      exact rRun_ends ls bar hp k on2 todo2 e2 e4 (by omega)
theorem rFrom_ends (ls : List (List Nat)) (at' bar : Int) (K : Nat) (hp : Pts ls) (hK : ls.length + 2 ≤ K) : ∃ F, rFrom ls at' bar K = some F ∧ F.length = ls.length := by
  unfold rFrom
  split
  · exact ⟨_, rfl, by simp⟩
  · rename_i h
    have hu := unsh_le ((List.replicate ls.length false).set at'.toNat true)
    rw [List.length_set, List.length_replicate] at hu
    exact rRun_ends ls bar hp K _ _ (by simp) (fun q hq => by rw [List.mem_singleton.1 hq]; omega) (by simp only [List.length_cons, List.length_nil]; omega)

end Go.Proofs.Ytpfjafjpijmckaa
