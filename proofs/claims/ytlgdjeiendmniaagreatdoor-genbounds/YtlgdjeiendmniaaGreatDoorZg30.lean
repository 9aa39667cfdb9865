/- The functions' numbers. · What the names of all functions mean. · What the names of all functions mean. -/
import Derived.Test.YtlgdjeiendmniaaGreatDoorZg29
set_option linter.unusedSimpArgs false
set_option linter.unusedVariables false
set_option maxRecDepth 10000

namespace Go.Proofs.YtlgdjeiendmniaaGreatDoor
open Go.RowKit Go.Maps

theorem look_all {w : World} {bm n : Nat} {lm : List (ByteArray × Int)} (h : MapIs w bm n lm) {s : ByteArray} (hs : small s = true) :
    ∃ c : Int, ∀ W : World, W.heap[bm]? = w.heap[bm]? → (Instr.lookup 106 (.map (some bm)) (.string s) true).run Tryz.prog W = .ok (.tuple #[.int .i64 c, .bool (lkp lm s).isSome]) W := by
  obtain ⟨D, ho, hx⟩ := h
  have key : ∀ W : World, W.heap[bm]? = w.heap[bm]? → ∃ c : Int, (Instr.lookup 106 (.map (some bm)) (.string s) true).run Tryz.prog W = .ok (.tuple #[.int .i64 c, .bool (lkp lm s).isSome]) W ∧ D.atKey (kyS s) (.lit (.int .i64 0)) = .lit (.int .i64 c) := by
    intro W hW
    have ho2 : W.ownsMap Tryz.prog 9 (plainElem Tryz.prog 3) bm n D := by
      obtain ⟨es, clock, hb, r⟩ := ho
      exact ⟨es, clock, hW.trans hb, r⟩
    obtain ⟨v, ps, hrun, hv⟩ := ho2.look_ok keyS Tryz.underlying106 (zeroI W) (plainElem_int Tryz.underlying3 (by decide)) (small_key hs)
    obtain ⟨c, rfl, hc, hwc⟩ := plainElem_int_inv Tryz.underlying3 hv
    rw [(hx s).1] at hrun
    exact ⟨c, hrun, congrArg Prod.fst hc⟩
  obtain ⟨c, h1, h2⟩ := key w rfl
  refine ⟨c, fun W hW => ?_⟩
  obtain ⟨c', h3, h4⟩ := key W hW
  have h5 : (DataW.lit (Lit.int .i64 c) : DataW Unit) = .lit (.int .i64 c') := h2.symm.trans h4
  injection h5 with h5
  injection h5 with _ h5
  rw [h5]
  exact h3

/-- What holds at the loop's head. -/
structure PgI (w wr : World) (fv : Value) (fs : List PFn) (j : Nat) (nm : List (ByteArray × Int)) : Prop where
  ext : Ext w wr
  map : MapIs wr w.heap.size j nm
  row : wr.heap[w.heap.size + 1]? = some (pgO fv w.heap.size 0)
  eq : nums (fs.drop j) j nm = nums fs 0 []

def ProgAns (fs : List PFn) (fv : Value) (w : World) (e : Ending) (w' : World) : Prop :=
  Ext w w' ∧ ((nums fs 0 [] = none ∧ e = .returned (.tuple #[.pointer none, .int .i64 11])) ∨ ∃ nm n, nums fs 0 [] = some nm ∧ e = .returned (.tuple #[.pointer (some ⟨w.heap.size + 1, 0, none⟩), .int .i64 0]) ∧ MapIs w' w.heap.size n nm ∧ w'.heap[w.heap.size + 1]? = some (pgO fv w.heap.size 0))

set_option maxHeartbeats 2000000 in
theorem programOf_w (fs : List PFn) (fa : Option Addr) (fcap : Nat) (F : Nat → Prop) (w : World) (hr : RepFL w F fs fa) (hcap : fs.length ≤ fcap) (hl : fs.length ≤ 100001) (hT : Tbl w) (hsm : ∀ p ∈ fs, small p.nm = true) :
    Calls Tryz.prog 27 #[.slice fa fs.length fcap] w (ProgAns fs (.slice fa fs.length fcap) w) := by
  have HR := hide hr
  have HT := hide hT
  have HSM := hide hsm
  have PI : Hd (PgI w ((w.alloc (.map #[] 0)).alloc (pgO (.slice fa fs.length fcap) w.heap.size 0)) (.slice fa fs.length fcap) fs 0 []) := by
    have h1 := Go.heap_alloc_new (w.alloc (.map #[] 0)) (pgO (.slice fa fs.length fcap) w.heap.size 0)
    rw [size_alloc] at h1
    exact ⟨(Ext.alloc _ _).trans (Ext.alloc _ _), (MapIs.made w).keep ((Ext.alloc _ _).block _ (by simp)), h1, by rw [List.drop_zero]⟩
  have hmm := @run_makeMap Tryz.prog
  clear hr hT hsm
  go_enter Tryz.func27, Tryz.ntmps27
  go_wp2_with fail
  go_loopw [18] (fun t wr => ∃ (j : Nat) (nm : List (ByteArray × Int)), t = .int .i64 j ∧ j ≤ fs.length ∧ Hd (PgI w wr (.slice fa fs.length fcap) fs j nm)) (fun t _ => fs.length - (intOf t).toNat)
  case atStart => exact ⟨0, [], rfl, Nat.zero_le _, PI⟩
  case round =>
    clear PI
    obtain ⟨j, nm, rfl, hj, hI⟩ := hrel
    have hrow := (unhide hI).row
    have m1 := rowC hrow 1 rfl
    have hl1 : w.heap.size + 1 < wr.heap.size := (Array.getElem?_eq_some_iff.1 hrow).1
    by_cases hlt : j < fs.length
    · obtain ⟨p, hp⟩ : ∃ p, fs[j]? = some p := ⟨_, List.getElem?_eq_getElem hlt⟩
      have hdr : fs.drop j = p :: fs.drop (j + 1) := by rw [List.drop_eq_getElem_cons hlt, (List.getElem?_eq_some_iff.1 hp).2]
      have hq := (unhide hI).eq
      rw [hdr, nums] at hq
      have hsp := unhide HSM p (List.mem_of_getElem? hp)
      rcases unhide HR with hnil | ⟨b, off, xs, rfl, hb, hx, hc⟩
      · rw [hnil] at hlt; simp at hlt
      obtain ⟨pa, pc, a2, cap2, h1, h2, _, _, hat⟩ := hx.at hp
      have p0 := (unhide hI).ext.cell (hc _ _ (hat 0 _ rfl))
      have p1 := (unhide hI).ext.cell (hc _ _ (hat 1 _ rfl))
      have p2 := (unhide hI).ext.cell (hc _ _ (hat 2 _ rfl))
      have p3 := (unhide hI).ext.cell (hc _ _ (hat 3 _ rfl))
      have p4 := (unhide hI).ext.cell (hc _ _ (hat 4 _ rfl))
      have p5 := (unhide hI).ext.cell (hc _ _ (hat 5 _ rfl))
      have p6 := (unhide hI).ext.cell (hc _ _ (hat 6 _ rfl))
      simp only [← Nat.add_assoc, Nat.add_zero] at p0 p1 p2 p3 p4 p5 p6
      obtain ⟨ob, hob⟩ : ∃ ob : Obj, ob = funO p.nm pa p.ps.length pc p.bd.k p.bd.o p.bd.s p.bd.n a2 p.bd.l.length cap2 := ⟨_, rfl⟩
      obtain ⟨c, hlook⟩ := look_all (unhide hI).map hsp
      have hX : Ext wr (wr.alloc ob) := Ext.alloc _ _
      have hMl := (unhide hI).map.lt
      have hrun : ∀ W : World, W.heap = (wr.alloc ob).heap → (Instr.lookup 106 (.map (some w.heap.size)) (.string p.nm) true).run Tryz.prog W = .ok (.tuple #[.int .i64 c, .bool (lkp nm p.nm).isSome]) W := fun W hW => hlook W (by rw [hW]; exact hX.block _ hMl)
      have hrun1 := hrun (wr.alloc ob).drew rfl
      rw [hob] at hrun1
      have HBi := hide (fun (W : World) (x : Ext w W) => builtin_w p.nm W ((unhide HT).ext x))
      have XE := hide ((unhide hI).ext.trans hX)
      unfold biV at HBi
      clear hx hc hat hdr
      rw [hob] at XE
      cases hb1 : (lkp nm p.nm).isSome
      · rw [hb1] at hrun1 hq
        rw [Bool.false_or] at hq
        cases hb2 : biP p.nm with
        | some r =>
          obtain ⟨r1, r2⟩ := r
          rw [hb2] at HBi hq
          simp only at HBi
          rw [Option.isSome_some, if_pos rfl] at hq
          have HNo := hide hq.symm
          clear hq hlook hrun
          go_wp2_with fail
          refine wp_nrm ?_
          first | skip; go_region | fail
          all_goals
            simp only [Nrm]
            go_wp2_with (go_at_call 51; refine Calls.mono (unhide HBi _ ((unhide XE).trans (Ext.drew (Ext.refl _)))) ?_; rintro e w1 ⟨rfl, hw⟩; obtain rfl := hw.symm)
            exact bodyPost_ret (v := .tuple #[.pointer none, .int .i64 11]) (by simp [results, Tryz.results27]) rfl ⟨(unhide XE).trans (Ext.drew (Ext.refl _)), Or.inl ⟨unhide HNo, rfl⟩⟩
        | none =>
          rw [hb2] at HBi hq
          simp only at HBi
          rw [Option.isSome_none, if_neg (by decide)] at hq
          obtain ⟨D, hD, hxs⟩ := (unhide hI).map
          have hDX : ((wr.alloc ob).drew.drew).ownsMap Tryz.prog 9 (plainElem Tryz.prog 3) w.heap.size j D := by
            obtain ⟨es, clock, hb, r⟩ := hD
            exact ⟨es, clock, (hX.block _ hMl).trans hb, r⟩
          obtain ⟨wu, hrunU, hoU, hgU⟩ := hDX.update keyS Tryz.underlying106 (by unfold maxLen; omega) (small_key hsp) (plainElem_int (q := .i64) Tryz.underlying3 (WalkArith.wf_i64 (n := (j : Int)) (by omega)))
          rw [hob] at hrunU
          have NI : Hd (PgI w wu (.slice (some ⟨b, off, none⟩) fs.length fcap) fs (j + 1) ((p.nm, (j : Int)) :: nm)) := by
            have hE := (unhide hI).ext
            refine ⟨⟨hgU.os.trans hE.os, hgU.tape.trans hE.tape, hgU.output.trans hE.output, Nat.le_trans hE.size (Nat.le_trans hX.size hgU.size), fun k hk => (hgU.block k (Nat.lt_of_lt_of_le hk (Nat.le_trans hE.size hX.size)) (fun e => by injection e with e; omega)).trans ((hX.block k (Nat.lt_of_lt_of_le hk hE.size)).trans (hE.block k hk))⟩, MapIs.put hD.isMap hxs hoU, ?_, hq⟩
            exact (hgU.block _ (Nat.lt_of_lt_of_le hl1 hX.size) (fun e => by injection e with e; omega)).trans ((hX.block _ hl1).trans hrow)
          clear hq hlook hrun hD hxs hDX hoU hgU
          go_wp2_with fail
          refine wp_nrm ?_
          first | skip; go_region | fail
          all_goals
            simp only [Nrm]
            go_wp2_with (go_at_call 51; refine Calls.mono (unhide HBi _ ((unhide XE).trans (Ext.drew (Ext.refl _)))) ?_; rintro e w1 ⟨rfl, hw⟩; obtain rfl := hw.symm)
            refine wp_nrm ?_
            first | skip; go_region | fail
            all_goals
              simp only [Nrm]
              go_wp2_with fail
              go_roundw
              case rel => exact ⟨j + 1, _, by go_num, by omega, NI⟩
              case measure => simp [intOf]; omega
      · rw [hb1] at hrun1 hq
        rw [Bool.true_or, if_pos rfl] at hq
        have HNo := hide hq.symm
        clear hq hlook hrun
        cases hb2 : biP p.nm with
        | some r =>
          obtain ⟨r1, r2⟩ := r
          rw [hb2] at HBi
          simp only at HBi
          go_wp2_with fail
          refine wp_nrm ?_
          first | skip; go_region | fail
          all_goals
            simp only [Nrm]
            go_wp2_with (go_at_call 51; refine Calls.mono (unhide HBi _ ((unhide XE).trans (Ext.drew (Ext.refl _)))) ?_; rintro e w1 ⟨rfl, hw⟩; obtain rfl := hw.symm)
            exact bodyPost_ret (v := .tuple #[.pointer none, .int .i64 11]) (by simp [results, Tryz.results27]) rfl ⟨(unhide XE).trans (Ext.drew (Ext.refl _)), Or.inl ⟨unhide HNo, rfl⟩⟩
        | none =>
          rw [hb2] at HBi
          simp only at HBi
          go_wp2_with fail
          refine wp_nrm ?_
          first | skip; go_region | fail
          all_goals
            simp only [Nrm]
            go_wp2_with (go_at_call 51; refine Calls.mono (unhide HBi _ ((unhide XE).trans (Ext.drew (Ext.refl _)))) ?_; rintro e w1 ⟨rfl, hw⟩; obtain rfl := hw.symm)
            exact bodyPost_ret (v := .tuple #[.pointer none, .int .i64 11]) (by simp [results, Tryz.results27]) rfl ⟨(unhide XE).trans (Ext.drew (Ext.refl _)), Or.inl ⟨unhide HNo, rfl⟩⟩
    · have hq := (unhide hI).eq
      rw [List.drop_eq_nil_of_le (by omega), nums] at hq
      have HQ := hide hq.symm
      clear hq
      go_wp2_with fail
      exact bodyPost_ret (v := .tuple #[.pointer (some ⟨w.heap.size + 1, 0, none⟩), .int .i64 0]) (by simp [results, Tryz.results27]) rfl ⟨(unhide hI).ext, Or.inr ⟨nm, j, unhide HQ, rfl, (unhide hI).map, (unhide hI).row⟩⟩

end Go.Proofs.YtlgdjeiendmniaaGreatDoor

namespace Go.Proofs.YtlgdjeiendmniaaGreatDoor
open Go.RowKit Go.Maps

def mainB : ByteArray := ⟨#[109, 97, 105, 110]⟩

set_option maxHeartbeats 1000000 in
theorem main_w (P M : Nat) (fv : Value) (sp : Int) (col : Nat → Nat) (nm : List (ByteArray × Int)) (fs : List PFn) (w : World) (hP : w.heap[P]? = some (pgO fv M sp)) (hC : Ctx w col M fv nm fs) :
    Calls Tryz.prog 29 #[.pointer (some ⟨P, 0, none⟩)] w fun e w' => e = .returned (.int .i64 (mainP nm fs)) ∧ Ext w w' := by
  have p0 : w.cell? ⟨P, 0, none⟩ = some fv := rowC hP 0 rfl
  have p1 : w.cell? ⟨P, 1, none⟩ = some (.map (some M)) := rowC hP 1 rfl
  obtain ⟨n, hm⟩ := hC.map
  obtain ⟨c, hrun, hv⟩ := look_run hm (s := ⟨#[109, 97, 105, 110]⟩) (by decide)
  unfold mainP
  cases hl : lkp nm ⟨#[109, 97, 105, 110]⟩ with
  | none =>
    rw [hl] at hrun
    simp only [Option.isSome_none] at hrun
    clear hP hC hm hv hl
    go_enter Tryz.func29, Tryz.ntmps29
    go_wp2_with fail
    go_ret
    exact ⟨rfl, Ext.refl _⟩
  | some i =>
    rw [hl] at hrun
    obtain rfl := hv i hl
    obtain ⟨hi0, hi1⟩ := hC.num _ c hl
    obtain ⟨k, rfl⟩ : ∃ k : Nat, c = k := ⟨c.toNat, by omega⟩
    have hk : k < fs.length := by simpa using hi1
    obtain ⟨p, hp⟩ : ∃ p, fs[k]? = some p := ⟨_, List.getElem?_eq_getElem hk⟩
    obtain ⟨fa, fcap, rfl, hf, hr⟩ := hC.fns
    rcases hr with hnil | ⟨b, off, xs, rfl, hbb, hx, hc⟩
    · rw [hnil] at hk; simp at hk
    obtain ⟨pa, pc, a2, cap2, h1, h2, _, _, hat⟩ := hx.at hp
    have q1 := hc _ _ (hat 1 _ rfl)
    simp only [← Nat.add_assoc] at q1
    simp only [Option.isSome_some] at hrun
    simp only [Int.toNat_natCast, hp, Option.map_some, Option.getD_some]
    by_cases h0 : 0 < p.ps.length
    · rw [if_pos h0]
      have h02 : decide ((0 : Int) < (p.ps.length : Int)) = true := by simp; omega
      clear hP hC hm hv hx hc hat hl hi0 hi1 hp
      generalize p.ps.length = N at *
      go_enter Tryz.func29, Tryz.ntmps29
      go_wp2_with fail
      go_ret
      exact ⟨rfl, Ext.refl _⟩
    · rw [if_neg h0]
      have h02 : p.ps.length = 0 := by omega
      rw [h02] at q1
      clear hP hC hm hv hx hc hat hl hi0 hi1 hp h0 h02
      go_enter Tryz.func29, Tryz.ntmps29
      go_wp2_with fail
      go_ret
      exact ⟨rfl, Ext.refl _⟩

/-- A row of numbers. -/
def RepI (w : World) (F : Nat → Prop) (a : Option Addr) (l : List Int) : Prop := l = [] ∨ ∃ b, a = some ⟨b, 0, none⟩ ∧ F b ∧ ∀ j x, l[j]? = some x → w.cell? ⟨b, j, none⟩ = some (.int .i64 x)
theorem RepI.to {w w' : World} {F F' : Nat → Prop} (h : ∀ b, F b → F' b ∧ w'.heap[b]? = w.heap[b]?) {l : List Int} {a : Option Addr} (hr : RepI w F a l) : RepI w' F' a l := by
  rcases hr with hr | ⟨b, rfl, hb, hc⟩
  · exact Or.inl hr
  · exact Or.inr ⟨b, rfl, (h b hb).1, fun j x hx => by rw [World.cell?_of_block (w := w) (h b hb).2]; exact hc j x hx⟩
theorem IntsAt.rep {w : World} {base : Nat} {a : Option Addr} {l : List Int} (h : IntsAt w base a l) : RepI w (fun b => base ≤ b ∧ b < w.heap.size) a l := by
  rcases h with h | ⟨b, e, h1, h2, h3⟩
  · exact Or.inl h
  · exact Or.inr ⟨b, e, ⟨h1, h2⟩, h3⟩

/-- The cells xs hold what the names of functions mean, one behind the other. -/
def RowSc (w : World) (F : Nat → Prop) : List PSc → List Value → Prop
  | [], xs => xs = []
  | p :: ps, xs => ∃ sa sc ca cc rest, xs = [.int .i64 p.lc, .slice sa p.sl.length sc, .slice ca p.cl.length cc] ++ rest ∧ p.sl.length ≤ sc ∧ RepI w F sa p.sl ∧ p.cl.length ≤ cc ∧ RepI w F ca p.cl ∧ RowSc w F ps rest
theorem RowSc.to {w w' : World} {F F' : Nat → Prop} (h : ∀ b, F b → F' b ∧ w'.heap[b]? = w.heap[b]?) : ∀ {ps : List PSc} {xs : List Value}, RowSc w F ps xs → RowSc w' F' ps xs := by
  intro ps
  induction ps with
  | nil => intro xs hx; exact hx
  | cons p ps ih =>
    intro xs hx
    obtain ⟨sa, sc, ca, cc, rest, e, h1, h2, h3, h4, hr⟩ := hx
    exact ⟨sa, sc, ca, cc, rest, e, h1, h2.to h, h3, h4.to h, ih hr⟩
theorem RowSc.snoc {w : World} {F : Nat → Prop} {p : PSc} {sa ca : Option Addr} {sc cc : Nat} (h1 : p.sl.length ≤ sc) (h2 : RepI w F sa p.sl) (h3 : p.cl.length ≤ cc) (h4 : RepI w F ca p.cl) :
    ∀ {ps : List PSc} {xs : List Value}, RowSc w F ps xs → RowSc w F (ps ++ [p]) (xs ++ [.int .i64 p.lc, .slice sa p.sl.length sc, .slice ca p.cl.length cc]) := by
  intro ps
  induction ps with
  | nil =>
    intro xs hx
    have : xs = [] := hx
    subst this
    exact ⟨sa, sc, ca, cc, [], by simp, h1, h2, h3, h4, rfl⟩
  | cons q ps ih =>
    intro xs hx
    obtain ⟨sa', sc', ca', cc', rest, e, k1, k2, k3, k4, hr⟩ := hx
    exact ⟨sa', sc', ca', cc', rest ++ _, by rw [e]; simp, k1, k2, k3, k4, ih hr⟩
/-- At an address. -/
def RepSc (w : World) (F : Nat → Prop) (ps : List PSc) (a : Option Addr) : Prop :=
  ps = [] ∨ ∃ b xs, a = some ⟨b, 0, none⟩ ∧ F b ∧ RowSc w F ps xs ∧ ∀ j u, xs[j]? = some u → w.cell? ⟨b, j, none⟩ = some u
theorem RepSc.to {w w' : World} {F F' : Nat → Prop} (h : ∀ b, F b → F' b ∧ w'.heap[b]? = w.heap[b]?) {ps : List PSc} {a : Option Addr} (hr : RepSc w F ps a) : RepSc w' F' ps a := by
  rcases hr with hr | ⟨b, xs, rfl, hb, hx, hc⟩
  · exact Or.inl hr
  · exact Or.inr ⟨b, xs, rfl, (h b hb).1, hx.to h, fun j u hu => by rw [World.cell?_of_block (w := w) (h b hb).2]; exact hc j u hu⟩

theorem infoSc : (Tryz.prog.info? 64).map (fun i => (i.zero, i.size, i.bytes)) = some (some (scV 0 none 0 0 none 0 0), 3, 56) := by kernel_rfl
theorem one_sc (lc : Int) (sa : Option Addr) (sn sc : Nat) (ca : Option Addr) (cn cc : Nat) : ∀ u ∈ ([.int .i64 lc, .slice sa sn sc, .slice ca cn cc] : List Value), u.oneCell' = true := by
  intro u hu
  simp at hu
  rcases hu with rfl | rfl | rfl <;> rfl

/-- What holds at the loop's head: P is the block w.heap.size + 1, M the block w.heap.size. -/
structure CkI (w w1 wr : World) (fv : Value) (nm : List (ByteArray × Int)) (fs : List PFn) (f j : Nat) (R : List PSc × Int) (sp : Int) (acc : List PSc) (ao : Option Addr) (cap : Nat) : Prop where
  ext : Ext w wr
  row : wr.heap[w.heap.size + 1]? = some (pgO fv w.heap.size sp)
  keep : ∀ k, k < w.heap.size + 1 → wr.heap[k]? = w1.heap[k]?
  big : w1.heap.size ≤ wr.heap.size
  eq : chk nm fs f (fs.drop j) sp acc = some R
  own : ∃ xs, wr.ownsRow (w.heap.size + 2) 64 3 (.slice ao acc.length cap) acc.length xs ∧ RowSc wr (fun b => w.heap.size + 2 ≤ b ∧ b < wr.heap.size ∧ some b ≠ (Value.slice ao acc.length cap).ownBlock) acc xs
  len : acc.length ≤ j

/-- The blocks below base alone have no colour. -/
def colS (base : Nat) : Nat → Nat := fun k => if k < base then 0 else 9
theorem colS_lt {base k : Nat} (h : colS base k = 0) : k < base := by
  unfold colS at h
  split at h
  · assumption
  · cases h
theorem Ctx.lift {w1 wr : World} {base P M : Nat} {fv : Value} {nm : List (ByteArray × Int)} {fs : List PFn} (h : Ctx w1 (colS base) M fv nm fs) (hk : ∀ k, k < base → wr.heap[k]? = w1.heap[k]?) (hz : w1.heap.size ≤ wr.heap.size) (hP : base ≤ P) : Ctx wr (colP P) M fv nm fs := by
  have hc : ∀ b o (u : Value), b < base → w1.cell? ⟨b, o, none⟩ = some u → wr.cell? ⟨b, o, none⟩ = some u := fun b o u h0 hu => by
    rw [World.cell?_of_block (w := w1) (hk b h0)]; exact hu
  have hp : ∀ k, k < base → colP P k = 0 := fun k h => colP_of (by omega)
  obtain ⟨n, hm⟩ := h.map
  obtain ⟨fa, fcap, e, hf, hr⟩ := h.fns
  exact ⟨⟨fun j v hv => hc _ _ _ (colS_lt h.g0) (h.tbl.bi j v hv), fun j x hx => hc _ _ _ (colS_lt h.g1) (h.tbl.nm j x hx)⟩, hp _ (colS_lt h.g0), hp _ (colS_lt h.g1), ⟨n, hm.keep (hk M (colS_lt h.cM))⟩, hp _ (colS_lt h.cM), ⟨fa, fcap, e, hf, hr.to (fun b hb => ⟨⟨hp b (colS_lt hb.1), Nat.lt_of_lt_of_le hb.2 hz⟩, hk b (colS_lt hb.1)⟩)⟩, h.num, h.bnd⟩

theorem own_Sc {wr : World} {base : Nat} {acc : List PSc} {ao : Option Addr} {cap : Nat} (h : ∃ xs, wr.ownsRow base 64 3 (.slice ao acc.length cap) acc.length xs ∧ RowSc wr (fun b => base ≤ b ∧ b < wr.heap.size ∧ some b ≠ (Value.slice ao acc.length cap).ownBlock) acc xs) : acc.length ≤ cap ∧ RepSc wr (Fr base wr.heap.size) acc ao := by
  obtain ⟨xs, ho, hr⟩ := h
  obtain ⟨hlen, ⟨e, h0⟩ | ⟨b, cap2, cur, e, hb, hrow, hc, _⟩⟩ := id ho
  · have : acc = [] := List.length_eq_zero_iff.1 h0
    subst this
    exact ⟨Nat.zero_le _, Or.inl rfl⟩
  · injection e with e1 e2 e3
    subst e1 e3
    refine ⟨hc, Or.inr ⟨b, xs, rfl, ⟨hb, (Array.getElem?_eq_some_iff.1 hrow).1⟩, RowSc.to (fun x hx => ⟨⟨hx.1, hx.2.1⟩, rfl⟩) hr, fun j u hu => ?_⟩⟩
    have := cells_own ho j u hu
    rw [Nat.zero_add] at this
    exact this

/-- The row over a function's call. -/
theorem heldSc_on {w wr w2 : World} {acc : List PSc} {v : Value} {n : Nat} {xs : List Value} (hx : wr.ownsRow (w.heap.size + 2) 64 3 v n xs ∧ RowSc wr (fun b => w.heap.size + 2 ≤ b ∧ b < wr.heap.size ∧ some b ≠ v.ownBlock) acc xs) (hz : wr.heap.size ≤ w2.heap.size) (k : ∀ b, w.heap.size + 2 ≤ b → b < wr.heap.size → w2.heap[b]? = wr.heap[b]?) :
    w2.ownsRow (w.heap.size + 2) 64 3 v n xs ∧ RowSc w2 (fun b => w.heap.size + 2 ≤ b ∧ b < w2.heap.size ∧ some b ≠ v.ownBlock) acc xs := by
  refine ⟨?_, RowSc.to (fun b hb => ⟨⟨hb.1, Nat.lt_of_lt_of_le hb.2.1 hz, hb.2.2⟩, k b hb.1 hb.2.1⟩) hx.2⟩
  have hlt := hx.1.lt
  obtain ⟨h1, h2⟩ := hx.1
  refine ⟨h1, ?_⟩
  rcases h2 with h2 | ⟨g, cap2, cur, e, hb, hg, rest⟩
  · exact Or.inl h2
  · have ho : v.ownBlock = some g := by rw [e]; rfl
    exact Or.inr ⟨g, cap2, cur, e, hb, (k g hb (hlt g ho).2).trans hg, rest⟩

end Go.Proofs.YtlgdjeiendmniaaGreatDoor

namespace Go.Proofs.YtlgdjeiendmniaaGreatDoor
open Go.RowKit Go.Maps

theorem nums_num : ∀ (l : List PFn) (i : Nat) (nm0 nm : List (ByteArray × Int)), nums l i nm0 = some nm → (∀ s v, lkp nm0 s = some v → 0 ≤ v ∧ v.toNat < i) → ∀ s v, lkp nm s = some v → 0 ≤ v ∧ v.toNat < i + l.length
  | [], i, nm0, nm, h, h0, s, v, hv => by
    rw [nums] at h
    injection h with h
    subst h
    exact h0 s v hv
  | p :: r, i, nm0, nm, h, h0, s, v, hv => by
    rw [nums] at h
    split at h
    · cases h
    · have := nums_num r (i + 1) _ nm h (fun s v hs => by
        rw [lkp_cons] at hs
        split at hs
        · injection hs with hs; subst hs; omega
        · have := h0 s v hs; omega) s v hv
      simp only [List.length_cons]
      omega

/-- What Check answers. -/
def ChkIs (R : List PSc × Int) (w : World) (e : Ending) (w' : World) : Prop :=
  Ext w w' ∧ ∃ a cap, e = .returned (.tuple #[.slice a R.1.length cap, .int .i64 R.2]) ∧ R.1.length ≤ cap ∧ RepSc w' (Fr w.heap.size w'.heap.size) R.1 a

theorem CkI.snoc {w w1 wr w2 w6 : World} {fv : Value} {nm : List (ByteArray × Int)} {fs : List PFn} {f j : Nat} {R : List PSc × Int} {sp : Int} {acc : List PSc} {ao : Option Addr} {cap : Nat} {st : WK} {sa ca : Option Addr} {sc cc g' cap' : Nat} {xs : List Value} (ob ob2 : Obj) (h : CkI w w1 wr fv nm fs f j R sp acc ao cap) (hlt : j < fs.length) (heq : chk nm fs f (fs.drop (j + 1)) st.sp (acc ++ [⟨st.lc, st.sl, st.cl⟩]) = some R)
    (hP2 : w2.heap[w.heap.size + 1]? = some (pgO fv w.heap.size st.sp)) (hk : Wk (colP (w.heap.size + 1)) (colP (w.heap.size + 1)) wr w2) (l1 : st.sl.length ≤ sc) (i1 : IntsAt w2 wr.heap.size sa st.sl) (l2 : st.cl.length ≤ cc) (i2 : IntsAt w2 wr.heap.size ca st.cl)
    (hx : ((w2.alloc ob).alloc ob2).ownsRow (w.heap.size + 2) 64 3 (.slice ao acc.length cap) acc.length xs ∧ RowSc ((w2.alloc ob).alloc ob2) (fun b => w.heap.size + 2 ≤ b ∧ b < ((w2.alloc ob).alloc ob2).heap.size ∧ some b ≠ (Value.slice ao acc.length cap).ownBlock) acc xs)
    (ho : w6.ownsRow (w.heap.size + 2) 64 3 (.slice (some ⟨g', 0, none⟩) (acc.length + 1) cap') (acc.length + 1) (xs ++ [.int .i64 st.lc, .slice sa st.sl.length sc, .slice ca st.cl.length cc]))
    (hgw : ((w2.alloc ob).alloc ob2).grownBy w6 (Value.slice ao acc.length cap).ownBlock) (hw : (Value.slice ao acc.length cap).ownBlock = some g' ∨ ((w2.alloc ob).alloc ob2).heap.size ≤ g') :
    CkI w w1 w6 fv nm fs f (j + 1) R st.sp (acc ++ [⟨st.lc, st.sl, st.cl⟩]) (some ⟨g', 0, none⟩) cap' := by
  have hz : ((w2.alloc ob).alloc ob2).heap.size = w2.heap.size + 2 := by rw [size_alloc, size_alloc]
  have hX : Ext w2 ((w2.alloc ob).alloc ob2) := (Ext.alloc _ _).trans (Ext.alloc _ _)
  have hrl : w.heap.size + 1 < wr.heap.size := (Array.getElem?_eq_some_iff.1 h.row).1
  have hz2 := hk.size
  have hgs := hgw.size
  have hln : (acc ++ [(⟨st.lc, st.sl, st.cl⟩ : PSc)]).length = acc.length + 1 := by simp
  have hne : ∀ k, k < w.heap.size + 2 → some k ≠ (Value.slice ao acc.length cap).ownBlock := fun k hk e => by have := (hx.1.lt k e.symm).1; omega
  have kk : ∀ k, k < wr.heap.size → k ≠ w.heap.size + 1 → some k ≠ (Value.slice ao acc.length cap).ownBlock → w6.heap[k]? = wr.heap[k]? := fun k h1 h2 h3 => (hgw.block k (by omega) h3).trans ((hX.block k (by omega)).trans (hk.keep k h1 (colP_of h2)))
  have hE : Ext w w6 := ⟨hgw.os.trans (hX.os.trans (hk.os.trans h.ext.os)), hgw.tape.trans (hX.tape.trans (hk.tape.trans h.ext.tape)), hgw.output.trans (hX.output.trans (hk.output.trans h.ext.output)), by have := h.ext.size; omega, fun k h1 => by have := h.ext.size; exact (kk k (by omega) (by omega) (hne k (by omega))).trans (h.ext.block k h1)⟩
  have hF : ∀ b, (w.heap.size + 2 ≤ b ∧ b < ((w2.alloc ob).alloc ob2).heap.size ∧ some b ≠ (Value.slice ao acc.length cap).ownBlock) →
      (w.heap.size + 2 ≤ b ∧ b < w6.heap.size ∧ some b ≠ (Value.slice (some ⟨g', 0, none⟩) (acc ++ [(⟨st.lc, st.sl, st.cl⟩ : PSc)]).length cap').ownBlock) ∧ w6.heap[b]? = ((w2.alloc ob).alloc ob2).heap[b]? := by
    intro b hb
    refine ⟨⟨hb.1, by have := hb.2.1; omega, ?_⟩, hgw.block b hb.2.1 hb.2.2⟩
    intro e
    simp only [Value.ownBlock, Option.some.injEq] at e
    rcases hw with e2 | e2
    · exact hb.2.2 (by rw [e2, e])
    · have := hb.2.1; omega
  have hI : ∀ b, (wr.heap.size ≤ b ∧ b < w2.heap.size) → (w.heap.size + 2 ≤ b ∧ b < ((w2.alloc ob).alloc ob2).heap.size ∧ some b ≠ (Value.slice ao acc.length cap).ownBlock) ∧ ((w2.alloc ob).alloc ob2).heap[b]? = w2.heap[b]? := by
    intro b hb
    obtain ⟨ys, hy, _⟩ := h.own
    exact ⟨⟨by omega, by omega, fun e => by have := (hy.lt b e.symm).2; omega⟩, hX.block b hb.2⟩
  exact ⟨hE, (hgw.block _ (by omega) (hne _ (by omega))).trans ((hX.block _ (by omega)).trans hP2), fun k h1 => (kk k (by omega) (by omega) (hne k (by omega))).trans (h.keep k h1), by have := h.big; omega, heq, ⟨_, by rw [hln]; exact ho, RowSc.snoc (p := ⟨st.lc, st.sl, st.cl⟩) l1 ((i1.rep.to hI).to hF) l2 ((i2.rep.to hI).to hF) (RowSc.to hF hx.2)⟩, by rw [hln]; have := h.len; omega⟩

set_option maxHeartbeats 2000000 in
theorem check_w (fs : List PFn) (fa : Option Addr) (fcap f : Nat) (w : World) (R : List PSc × Int) (hr : RepFL w (fun k => k < w.heap.size) fs fa) (hcap : fs.length ≤ fcap) (hl : fs.length ≤ 100001) (hT : Tbl w) (hsm : ∀ p ∈ fs, small p.nm = true) (hpl : ∀ p ∈ fs, p.ps.length ≤ 1000000) (hf : f ≤ 7000000) (hq : checkQ fs f = some R) :
    Calls Tryz.prog 14 #[.slice fa fs.length fcap] w (ChkIs R w) := by
  have HPr := hide (programOf_w fs fa fcap _ w hr hcap hl hT hsm)
  have HR := hide hr
  have HT := hide hT
  have HPL := hide hpl
  unfold checkQ at hq
  cases hn : nums fs 0 [] with
  | none =>
    rw [hn] at hq
    injection hq with hq
    subst hq
    have HP2 : Hd (Calls Tryz.prog 27 #[.slice fa fs.length fcap] w fun e w' => e = .returned (.tuple #[.pointer none, .int .i64 11]) ∧ Ext w w') := (unhide HPr).mono (by
      rintro e w' ⟨hX, (⟨_, rfl⟩ | ⟨nm, n, h1, _⟩)⟩
      · exact ⟨rfl, hX⟩
      · rw [hn] at h1; cases h1)
    clear hr hT hsm hpl HPr
    go_enter Tryz.func14, Tryz.ntmps14
    go_wp2_with (go_at_call 27; refine Calls.mono (unhide HP2) ?_; rintro e w1 ⟨rfl, hX⟩; have X := hide hX; clear hX)
    exact bodyPost_ret (v := .tuple #[.slice none 0 0, .int .i64 11]) (by simp [results, Tryz.results14]) rfl ⟨unhide X, none, 0, rfl, Nat.le_refl _, Or.inl rfl⟩
  | some nm =>
    rw [hn] at hq
    simp only at hq
    cases hch : chk nm fs f fs 0 [] with
    | none => rw [hch] at hq; cases hq
    | some le =>
    rw [hch] at hq
    simp only at hq
    have HP2 : Hd (Calls Tryz.prog 27 #[.slice fa fs.length fcap] w fun e w' => e = .returned (.tuple #[.pointer (some ⟨w.heap.size + 1, 0, none⟩), .int .i64 0]) ∧ Ext w w' ∧ (∃ n, MapIs w' w.heap.size n nm) ∧ w'.heap[w.heap.size + 1]? = some (pgO (.slice fa fs.length fcap) w.heap.size 0)) := (unhide HPr).mono (by
      rintro e w' ⟨hX, (⟨h1, _⟩ | ⟨nm2, n, h1, rfl, h2, h3⟩)⟩
      · rw [hn] at h1; cases h1
      · rw [hn] at h1; injection h1 with h1; subst h1; exact ⟨rfl, hX, ⟨n, h2⟩, h3⟩)
    have HNUM := hide (nums_num fs 0 [] nm hn (fun s v h => by cases h))
    have HCH := hide hch
    have HQ := hide hq
    obtain ⟨i0, hi, hz0, hz1, hz2⟩ := info_parts infoSc
    have HI := hide hi
    have Z0 := hide hz0
    have Z1 := hide hz1
    have Z2 := hide hz2
    clear hi hz0 hz1 hz2 hr hT hsm hpl HPr hn hch hq
    go_enter Tryz.func14, Tryz.ntmps14
    go_wp2_with (go_at_call 27; refine Calls.mono (unhide HP2) ?_; rintro e w1 ⟨rfl, hX, hm, hrow⟩; have X := hide hX; have HM := hide hm; have HRW := hide hrow; clear hX hm hrow)
    have HC1 : Hd (Ctx w1 (colS (w.heap.size + 1)) w.heap.size (.slice fa fs.length fcap) nm fs) := by
      have hX := unhide X
      have t1 := (unhide HT).ext hX
      have l0 : 1 < w.heap.size := World.block_lt_of_cell? w ⟨1, 0, none⟩ ((unhide HT).bi 0 _ rfl)
      have l1 : 2 < w.heap.size := World.block_lt_of_cell? w ⟨2, 13, none⟩ ((unhide HT).nm 0 _ rfl)
      have hs : ∀ k, k < w.heap.size + 1 → colS (w.heap.size + 1) k = 0 := fun k h => by unfold colS; rw [if_pos h]
      exact ⟨t1, hs _ (by omega), hs _ (by omega), unhide HM, hs _ (by omega), ⟨fa, fcap, rfl, hcap, (unhide HR).to (fun b hb => ⟨⟨hs b (Nat.lt_succ_of_lt hb), Nat.lt_of_lt_of_le hb hX.size⟩, hX.block b hb⟩)⟩, fun s i h => by have := unhide HNUM s i h; omega, hl⟩
    have PI : Hd (CkI w w1 w1 (.slice fa fs.length fcap) nm fs f 0 le 0 [] none 0) := ⟨unhide X, unhide HRW, fun _ _ => rfl, Nat.le_refl _, by rw [List.drop_zero]; exact unhide HCH, ⟨[], World.ownsRow_nil _ _ _ _, rfl⟩, Nat.le_refl _⟩
    clear X HM HRW HP2
    go_wp2_with fail
    go_loopw [6, 21] (fun t6 t21 wr => ∃ (j : Nat) (sp : Int) (acc : List PSc) (ao : Option Addr) (cap : Nat), t21 = .int .i64 j ∧ t6 = .slice ao acc.length cap ∧ j ≤ fs.length ∧ Hd (CkI w w1 wr (.slice fa fs.length fcap) nm fs f j le sp acc ao cap)) (fun _ t21 _ => fs.length - (intOf t21).toNat)
    case atStart => exact ⟨0, 0, [], none, 0, rfl, rfl, Nat.zero_le _, PI⟩
    case round =>
      clear PI
      obtain ⟨j, sp, acc, ao, cap, rfl, rfl, hj, hI⟩ := hrel
      have hrl : w.heap.size + 1 < wr.heap.size := (Array.getElem?_eq_some_iff.1 (unhide hI).row).1
      have hCw := (unhide HC1).lift (unhide hI).keep (unhide hI).big (P := w.heap.size + 1) (Nat.le_refl _)
      by_cases hlt : j < fs.length
      · obtain ⟨p, hp⟩ : ∃ p, fs[j]? = some p := ⟨_, List.getElem?_eq_getElem hlt⟩
        have hdr : fs.drop j = p :: fs.drop (j + 1) := by rw [List.drop_eq_getElem_cons hlt, (List.getElem?_eq_some_iff.1 hp).2]
        have hE := (unhide hI).eq
        rw [hdr, chk] at hE
        cases hfn : fnW nm fs f sp p with
        | none => rw [hfn] at hE; cases hE
        | some st =>
        rw [hfn] at hE
        simp only at hE
        have hpl := unhide HPL p (List.mem_of_getElem? hp)
        obtain ⟨fa2, fcap2, e2, _, hr2⟩ := hCw.fns
        injection e2 with e2 _ e3
        subst e2 e3
        rcases hr2 with hnil | ⟨b, off, xs, rfl, hb, hx, hc⟩
        · rw [hnil] at hlt; simp at hlt
        obtain ⟨pa, pc, a2, cap2, h1, h2, h3, h4, hat⟩ := hx.at hp
        have p1 := hc _ _ (hat 1 _ rfl)
        have p2 := hc _ _ (hat 2 _ rfl)
        have p4 := hc _ _ (hat 4 _ rfl)
        have p6 := hc _ _ (hat 6 _ rfl)
        simp only [← Nat.add_assoc] at p1 p2 p4 p6
        have HFn := hide (fn_w (w.heap.size + 1) w.heap.size _ sp nm fs p b (off + j * 7) f pa pc wr st (unhide hI).row hCw p1 h1 h3 ⟨hb.1, hb.2, a2, cap2, p2, p4, p6, h2, h4⟩ (by omega) hfn)
        obtain ⟨ys, hy⟩ := (unhide hI).own
        have HXS := hide (fun (w2 : World) (k : Wk (colP (w.heap.size + 1)) (colP (w.heap.size + 1)) wr w2) => heldSc_on hy k.size (fun b h1 h2 => k.keep b h2 (colP_of (by omega))))
        have hlen := (unhide hI).len
        clear hx hc hat hdr hCw hy p1 p2 p4 p6 h1 h2 h3 h4 hb hp hfn
        by_cases he : st.e = 0
        · rw [if_neg (by simp [he])] at hE
          have he2 : (st.e == 0) = true := by simp [he]
          have he3 : (st.e != 0) = false := by simp [he]
          have HE := hide hE
          clear hE he
          generalize hA : acc.length = A at *
          go_wp2_with (first
            | (go_at_call 28; refine Calls.mono (unhide HFn) ?_; rintro e w2 ⟨sa, sc, ca, cc, rfl, hP2, hk2, hs1, hs2, hs3, hs4⟩; have HP2 := hide hP2; have HK2 := hide hk2; have L1 := hide hs1; have I1 := hide hs2; have L2 := hide hs3; have I2 := hide hs4; have hz2 : wr.heap.size ≤ w2.heap.size := hk2.size; clear hP2 hk2 hs1 hs2 hs3 hs4)
            | (at_builtin; refine wpList_append_where rfl (.tmp 35) (.tmp 37) 40 rfl (w.heap.size + 2) 64 i0 (scV 0 none 0 0 none 0 0) 3 56 Tryz.underlying40 (unhide HI) (unhide Z0) (unhide Z1) (unhide Z2) rfl (by decide) ao A cap ys rfl ((unhide HXS _ (unhide HK2)).1.alloc _ |>.alloc _) ⟨w2.heap.size + 1, 0, none⟩ 1 1 [.int .i64 st.lc, .slice sa st.sl.length sc, .slice ca st.cl.length cc] rfl (by decide) rfl ?o2 (one_sc _ _ _ _ _ _ _) ?c1 ?c2 ?c3 ?_))
          case o2 =>
            intro j u hu
            have h := cells_new (w2.alloc (.cells #[.int .i64 st.lc, .slice sa st.sl.length sc, .slice ca st.cl.length cc] 64)) #[.int .i64 st.lc, .slice sa st.sl.length sc, .slice ca st.cl.length cc] 64 j u hu
            rw [size_alloc] at h
            exact h
          case c1 => unfold maxLen; omega
          case c2 => omega
          case c3 => rw [size_alloc, size_alloc]; omega
          intro g' cap' w6 ho6 hg6 hw6
          subst hA
          have hX2 : Ext w2 ((w2.alloc (.cells #[.int .i64 st.lc, .slice sa st.sl.length sc, .slice ca st.cl.length cc] 64)).alloc (.cells #[.int .i64 st.lc, .slice sa st.sl.length sc, .slice ca st.cl.length cc] 64)) := (Ext.alloc _ _).trans (Ext.alloc _ _)
          have NI : Hd (CkI w w1 w6 (.slice (some ⟨b, off, none⟩) fs.length fcap) nm fs f (j + 1) le st.sp (acc ++ [⟨st.lc, st.sl, st.cl⟩]) (some ⟨g', 0, none⟩) cap') := CkI.snoc _ _ (unhide hI) hlt (unhide HE) (unhide HP2) (unhide HK2) (unhide L1) (unhide I1) (unhide L2) (unhide I2) (heldSc_on (unhide HXS _ (unhide HK2)) hX2.size (fun b _ h2 => hX2.block b h2)) ho6 hg6 (by rw [size_alloc, size_alloc]; exact hw6)
          have hln : (acc ++ [(⟨st.lc, st.sl, st.cl⟩ : PSc)]).length = acc.length + 1 := by simp
          clear ho6 hg6 hw6 hX2
          go_wp2_with fail
          go_roundw
          case rel => exact ⟨j + 1, st.sp, _, _, _, by go_num, by rw [hln], by omega, NI⟩
          case measure => simp [intOf]; omega
        · rw [if_pos he] at hE
          have he2 : (st.e == 0) = false := by simpa using he
          have he3 : (st.e != 0) = true := by simp [he]
          have HRR : Hd (R = ([], st.e)) := by
            injection hE with hE
            have h0 := unhide HQ
            rw [← hE, if_pos he] at h0
            injection h0 with h0
            exact h0.symm
          clear hE he
          go_wp2_with ((go_at_call 28; refine Calls.mono (unhide HFn) ?_; rintro e w2 ⟨sa, sc, ca, cc, rfl, hP2, hk2, hs1, hs2, hs3, hs4⟩; have HP2 := hide hP2; have HK2 := hide hk2; have L1 := hide hs1; have I1 := hide hs2; have L2 := hide hs3; have I2 := hide hs4; have hz2 : wr.heap.size ≤ w2.heap.size := hk2.size; clear hP2 hk2 hs1 hs2 hs3 hs4))
          have hX3 : Ext w w2 := by
            have h0 := (unhide hI).ext
            have h1 := unhide HK2
            exact ⟨h1.os.trans h0.os, h1.tape.trans h0.tape, h1.output.trans h0.output, Nat.le_trans h0.size h1.size, fun k hk => (h1.keep k (Nat.lt_of_lt_of_le hk h0.size) (colP_of (by omega))).trans (h0.block k hk)⟩
          rw [unhide HRR]
          exact bodyPost_ret (v := .tuple #[.slice none 0 0, .int .i64 st.e]) (by simp [results, Tryz.results14]) rfl ⟨hX3.trans (Ext.alloc _ _), none, 0, rfl, Nat.le_refl _, Or.inl rfl⟩
      · have hE := (unhide hI).eq
        rw [List.drop_eq_nil_of_le (by omega), chk] at hE
        injection hE with hE
        have HMn := hide (main_w (w.heap.size + 1) w.heap.size _ sp _ nm fs wr (unhide hI).row hCw)
        have h0 := unhide HQ
        rw [← hE, if_neg (by simp)] at h0
        have hD := own_Sc (unhide hI).own
        have HD := hide hD
        clear hE hCw hD
        by_cases hm : mainP nm fs = 0
        · rw [if_neg (by simp [hm])] at h0
          injection h0 with h0
          rw [hm] at HMn
          have HRR := hide h0.symm
          clear h0 hm
          go_wp2_with (go_at_call 29; refine Calls.mono (unhide HMn) ?_; rintro e w2 ⟨rfl, hX⟩; have X := hide hX; clear hX)
          rw [unhide HRR]
          exact bodyPost_ret (v := .tuple #[.slice ao acc.length cap, .int .i64 0]) (by simp [results, Tryz.results14]) rfl ⟨(unhide hI).ext.trans (unhide X), ao, cap, rfl, (unhide HD).1, (unhide HD).2.to (fun b hb => ⟨⟨by have := hb.1; omega, Nat.lt_of_lt_of_le hb.2 (unhide X).size⟩, (unhide X).block b hb.2⟩)⟩
        · rw [if_pos hm] at h0
          injection h0 with h0
          have HRR := hide h0.symm
          have hm2 : (mainP nm fs == 0) = false := by simpa using hm
          have hm3 : (mainP nm fs != 0) = true := by simp [hm]
          clear h0 hm
          generalize mainP nm fs = mv at *
          go_wp2_with (go_at_call 29; refine Calls.mono (unhide HMn) ?_; rintro e w2 ⟨rfl, hX⟩; have X := hide hX; clear hX)
          rw [unhide HRR]
          exact bodyPost_ret (v := .tuple #[.slice none 0 0, .int .i64 mv]) (by simp [results, Tryz.results14]) rfl ⟨(unhide hI).ext.trans (unhide X), none, 0, rfl, Nat.le_refl _, Or.inl rfl⟩

end Go.Proofs.YtlgdjeiendmniaaGreatDoor
