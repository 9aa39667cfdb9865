/- The package's Assign under way: the places, the rows of those that are free and of those that hold; what each call leaves of it. -/
import Derived.Test.YtjopfpchbakggaaCoFo
set_option linter.unusedSimpArgs false
set_option linter.unusedVariables false
set_option maxRecDepth 10000
namespace Go.Proofs.Ytjopfpchbakggaa
open Go.RowKit

abbrev fA : Value := .func (.func 15) #[] #[]
abbrev fB (bl : Nat) : Value := .func (.func 13) #[] #[.pointer (some ⟨bl, 0, none⟩)]
structure AsS (w wr : World) (lv : Value) (bl P FA FB : Nat) (T : List T3) (fr hd : List Nat) (v1 v2 : Value) : Prop where
  X : Ext w wr
  gl : w.heap.size ≤ bl
  gP : w.heap.size ≤ P
  rb : Row wr bl 22 [lv]
  rP : Row wr P 29 (tpV T)
  A : CrS wr w.heap.size FA fA v1 fr
  B : CrS wr w.heap.size FB (fB bl) v2 hd
  ne : FA ≠ FB
  nv : ∀ b, v1.ownBlock = some b → v2.ownBlock = some b → False
variable {w wr wq : World} {lv : Value} {bl P FA FB : Nat} {T : List T3} {fr hd : List Nat} {v1 v2 : Value}
theorem row_ne {w : World} {a b : Nat} {t t' : TypeId} {xs ys : List Value} (h : Row w a t xs) (k : Row w b t' ys) (ht : t ≠ t') : a ≠ b := fun e => by
  subst e
  have k2 := Option.some.inj (Eq.trans (Eq.symm h) k)
  injection k2 with _ h2 _
  exact ht h2
theorem own_ne {w : World} {lo b : Nat} {t : TypeId} {xs : List Value} {v : Value} {l : List Nat} (h : Bk w lo v l) (k : Row w b t xs) (ht : t ≠ 3) {c : Nat} (hc : v.ownBlock = some c) : b ≠ c := fun e => h.ne k ht (by rw [hc, e])
theorem AsS.ext (h : AsS w wr lv bl P FA FB T fr hd v1 v2) (k : Ext wr wq) : AsS w wq lv bl P FA FB T fr hd v1 v2 :=
  ⟨h.X.trans k, h.gl, h.gP, h.rb.on k, h.rP.on k, h.A.ext k, h.B.ext k, h.ne, h.nv⟩
/-- Of what stood only the row A, and its block, have turned. -/
theorem AsS.turnA {fr' : List Nat} {v1' : Value} (h : AsS w wr lv bl P FA FB T fr hd v1 v2) (hA : CrS wq w.heap.size FA fA v1' fr') (k : CrF wr wq FA v1.ownBlock) (ho : v1'.ownBlock = v1.ownBlock ∨ ∀ b, v1'.ownBlock = some b → wr.heap.size ≤ b) : AsS w wq lv bl P FA FB T fr' hd v1' v2 := by
  have keep : ∀ b, b < wr.heap.size → b ≠ FA → (∀ c, v1.ownBlock = some c → b ≠ c) → wq.heap[b]? = wr.heap[b]? := fun b hb h1 h2 => k.block b hb h1 (fun e => h2 b e.symm rfl)
  refine ⟨?_, h.gl, h.gP, ?_, ?_, hA, ?_, h.ne, ?_⟩
  · refine ⟨k.os.trans h.X.os, k.tape.trans h.X.tape, k.output.trans h.X.output, Nat.le_trans h.X.size k.size, fun b hb => ?_⟩
    refine (keep b (Nat.lt_of_lt_of_le hb h.X.size) (fun e => ?_) (fun c hc e => ?_)).trans (h.X.block b hb)
    · have := h.A.ge; omega
    · have := (h.A.bk.lt hc).1; omega
  · exact (keep bl (k_lt h.rb) (row_ne h.rb h.A.row (by decide)) (fun c hc => own_ne h.A.bk h.rb (by decide) hc)).trans h.rb
  · exact (keep P (k_lt h.rP) (row_ne h.rP h.A.row (by decide)) (fun c hc => own_ne h.A.bk h.rP (by decide) hc)).trans h.rP
  · refine h.B.to fun b hb => ?_
    rcases hb with rfl | hb
    · exact keep _ (k_lt h.B.row) (fun e => h.ne e.symm) (fun c hc => own_ne h.A.bk h.B.row (by decide) hc)
    · exact keep b (h.B.bk.lt hb).2 (fun e => own_ne h.B.bk h.A.row (by decide) hb e.symm) (fun c hc e => h.nv c hc (by rw [← e]; exact hb))
  · intro b h1 h2
    rcases ho with ho | ho
    · exact h.nv b (ho ▸ h1) h2
    · have := ho b h1
      have := (h.B.bk.lt h2).2
      omega
theorem AsS.turnB {hd' : List Nat} {v2' : Value} (h : AsS w wr lv bl P FA FB T fr hd v1 v2) (hB : CrS wq w.heap.size FB (fB bl) v2' hd') (k : CrF wr wq FB v2.ownBlock) (ho : v2'.ownBlock = v2.ownBlock ∨ ∀ b, v2'.ownBlock = some b → wr.heap.size ≤ b) : AsS w wq lv bl P FA FB T fr hd' v1 v2' := by
  have keep : ∀ b, b < wr.heap.size → b ≠ FB → (∀ c, v2.ownBlock = some c → b ≠ c) → wq.heap[b]? = wr.heap[b]? := fun b hb h1 h2 => k.block b hb h1 (fun e => h2 b e.symm rfl)
  refine ⟨?_, h.gl, h.gP, ?_, ?_, ?_, hB, h.ne, ?_⟩
  · refine ⟨k.os.trans h.X.os, k.tape.trans h.X.tape, k.output.trans h.X.output, Nat.le_trans h.X.size k.size, fun b hb => ?_⟩
    refine (keep b (Nat.lt_of_lt_of_le hb h.X.size) (fun e => ?_) (fun c hc e => ?_)).trans (h.X.block b hb)
    · have := h.B.ge; omega
    · have := (h.B.bk.lt hc).1; omega
  · exact (keep bl (k_lt h.rb) (row_ne h.rb h.B.row (by decide)) (fun c hc => own_ne h.B.bk h.rb (by decide) hc)).trans h.rb
  · exact (keep P (k_lt h.rP) (row_ne h.rP h.B.row (by decide)) (fun c hc => own_ne h.B.bk h.rP (by decide) hc)).trans h.rP
  · refine h.A.to fun b hb => ?_
    rcases hb with rfl | hb
    · exact keep _ (k_lt h.A.row) h.ne (fun c hc => own_ne h.B.bk h.A.row (by decide) hc)
    · exact keep b (h.A.bk.lt hb).2 (fun e => own_ne h.A.bk h.B.row (by decide) hb e.symm) (fun c hc e => h.nv b hb (by rw [e]; exact hc))
  · intro b h1 h2
    rcases ho with ho | ho
    · exact h.nv b h1 (ho ▸ h2)
    · have := ho b h2
      have := (h.A.bk.lt h1).2
      omega
theorem crf_set (w : World) (F : Nat) (o : Option Nat) (v : Value) : CrF w (w.setCell ⟨F, 0, none⟩ v) F o :=
  ⟨rfl, rfl, rfl, by simp [World.setCell], fun k _ h1 _ => k_row_other rfl h1 0 v⟩
theorem AsS.setP (h : AsS w wr lv bl P FA FB T fr hd v1 v2) {T' : List T3} (j : Nat) (u : Value) (hT : Row (wr.setCell ⟨P, j, none⟩ u) P 29 (tpV T')) : AsS w (wr.setCell ⟨P, j, none⟩ u) lv bl P FA FB T' fr hd v1 v2 := by
  have e1 : FA ≠ P := row_ne h.A.row h.rP (by decide)
  have e2 : FB ≠ P := row_ne h.B.row h.rP (by decide)
  refine ⟨h.X.set (p := ⟨P, j, none⟩) h.gP _, h.gl, h.gP, h.rb.other (row_ne h.rb h.rP (by decide)) _ _, hT, h.A.to fun b hb => ?_, h.B.to fun b hb => ?_, h.ne, h.nv⟩
  · rcases hb with rfl | hb
    · exact k_row_other rfl e1 _ _
    · exact k_row_other rfl (fun e => own_ne h.A.bk h.rP (by decide) hb e.symm) _ _
  · rcases hb with rfl | hb
    · exact k_row_other rfl e2 _ _
    · exact k_row_other rfl (fun e => own_ne h.B.bk h.rP (by decide) hb e.symm) _ _
theorem AsS.set1 (h : AsS w wr lv bl P FA FB T fr hd v1 v2) {k : Nat} {t : T3} (ht : T[k]? = some t) (v : Int) : AsS w (wr.setCell ⟨P, k * 3 + 1, none⟩ (.int .i64 v)) lv bl P FA FB (T.set k (t.1, v, t.2.2)) fr hd v1 v2 :=
  h.setP _ _ (by rw [← tpV_set1 v ht]; exact h.rP.set _ _)
theorem AsS.set2 (h : AsS w wr lv bl P FA FB T fr hd v1 v2) {k : Nat} {t : T3} (ht : T[k]? = some t) (v : Int) : AsS w (wr.setCell ⟨P, k * 3 + 2, none⟩ (.int .i64 v)) lv bl P FA FB (T.set k (t.1, t.2.1, v)) fr hd v1 v2 :=
  h.setP _ _ (by rw [← tpV_set2 v ht]; exact h.rP.set _ _)
theorem AsS.set0 (h : AsS w wr lv bl P FA FB T fr hd v1 v2) {k : Nat} {t : T3} (ht : T[k]? = some t) (v : Int) : AsS w (wr.setCell ⟨P, k * 3, none⟩ (.int .i64 v)) lv bl P FA FB (T.set k (v, t.2.1, t.2.2)) fr hd v1 v2 :=
  h.setP _ _ (by rw [← tpV_set0 v ht]; exact h.rP.set _ _)
theorem AsS.set3 (h : AsS w wr lv bl P FA FB T fr hd v1 v2) {k : Nat} (hk : k < T.length) (a b c : Int) : AsS w (((wr.setCell ⟨P, k * 3, none⟩ (.int .i64 a)).setCell ⟨P, k * 3 + 1, none⟩ (.int .i64 b)).setCell ⟨P, k * 3 + 2, none⟩ (.int .i64 c)) lv bl P FA FB (T.set k (a, b, c)) fr hd v1 v2 := by
  have x0 := h.set0 (List.getElem?_eq_getElem hk) a
  have h1 : (T.set k (a, T[k].2.1, T[k].2.2))[k]? = some (a, T[k].2.1, T[k].2.2) := by rw [List.getElem?_set_self hk]
  have x1 := x0.set1 h1 b
  rw [List.set_set] at x1
  have h2 : (T.set k (a, b, T[k].2.2))[k]? = some (a, b, T[k].2.2) := by rw [List.getElem?_set_self hk]
  have x2 := x1.set2 h2 c
  rw [List.set_set] at x2
  exact x2

/-- What holds of both rows while some give their registers back. -/
structure PopOk (L : List Iv) (i m : Nat) (o : List (Option Nat × Option Nat)) (hd fr : List Nat) : Prop where
  hs : hd.Pairwise (fun a b => kC L a b < 0)
  hk : ∀ k ∈ hd, k < i ∧ ∃ p, o[k]? = some (some p, none)
  fs : fr.Pairwise (· ≤ ·)
  ln : hd.length + fr.length = m
theorem PopOk.next {L : List Iv} {i m k : Nat} {o : List (Option Nat × Option Nat)} {r fr : List Nat} (h : PopOk L i m o (k :: r) fr) : PopOk L i m o r (fIns (pO o k) fr) := by
  have hs := h.hs
  rw [List.pairwise_cons] at hs
  refine ⟨hs.2, fun j hj => h.hk j (List.mem_cons_of_mem _ hj), fIns_le h.fs, ?_⟩
  have e1 := fIns_len (pO o k) fr
  have e2 := h.ln
  rw [List.length_cons] at e2
  omega
theorem PopOk.all {L : List Iv} {i m : Nat} {o : List (Option Nat × Option Nat)} {s : Int} : ∀ {hd fr : List Nat}, PopOk L i m o hd fr → PopOk L i m o (gPop L o s hd fr).1 (gPop L o s hd fr).2
  | [], fr, h => h
  | k :: r, fr, h => by
    rw [gPop]
    split
    · exact h.next.all
    · exact h
theorem GRel.pop {L : List Iv} {m m' i : Nat} {g : GvS} {c : CS} (G : GRel L m m' i g c) (I : CInv L m i c) : PopOk L i m' g.o g.hd g.fr :=
  ⟨G.hs, fun k hk => by
    obtain ⟨p, hp⟩ := (G.hm k).1 hk
    have := I.a p k hp
    exact ⟨I.lt this, p, by rw [G.eo]; exact this⟩, G.fs.imp (fun h => Nat.le_of_lt h), G.ln⟩

end Go.Proofs.Ytjopfpchbakggaa
