/- Plain facts on small values: what a text, an int, and a list of such values are taken for, how great they are. -/
import Derived.Test.YtbkncdjmodeabaaValList
set_option linter.unusedSimpArgs false
set_option maxRecDepth 10000
namespace Go.Proofs.Ytbkncdjmodeabaa
open Go.RowKit

/-- A text, an int, a list, as plain values. -/
def tx (s : ByteArray) : PV := .mk 3 0 0 0 s []
def it (n : Int) : PV := .mk 1 n 0 0 ⟨#[]⟩ []
def ls (l : List PV) : PV := .mk 4 0 0 0 ⟨#[]⟩ l

theorem ord00 : FloatKind.f64.format.order 0 0 = some Ordering.eq := by kernel_rfl
theorem empty_list : ({ data := #[] } : ByteArray).toList = [] := by simp [ByteArray.toList, ByteArray.toList.loop, ByteArray.size]

theorem wfv_tx (s : ByteArray) : wfv (tx s) = true := by simp [tx, wfv, wfvL, unused, ord00]
theorem wfv_it (n : Int) : wfv (it n) = true := by simp [it, wfv, wfvL, unused, ord00, empty_list]
theorem wfv_nil : wfv nilP = true := by simp [nilP, wfv, wfvL, unused, ord00, empty_list]
theorem wfv_ls (l : List PV) : wfv (ls l) = wfvL l := by simp [ls, wfv, unused, ord00, empty_list]
theorem sz_tx (s : ByteArray) (d : Nat) : sz (tx s) d = min (1 + s.size) 1001 := by rw [tx, sz, if_pos rfl]
theorem sz_it (n : Int) (d : Nat) : sz (it n) d = 1 := by rw [it, sz, if_neg (by decide), if_neg (by decide)]
theorem sz_nil (d : Nat) : sz nilP d = 1 := by rw [nilP, sz, if_neg (by decide), if_neg (by decide)]
theorem sz_ls (l : List PV) (d : Nat) (h : d ≠ 24) : sz (ls l) d = szL l (d + 1) 1 := by rw [ls, sz, if_neg (by decide), if_pos rfl, if_neg h]
theorem okv_tx (s : ByteArray) : okv (tx s) = decide (s.size ≤ 999) := by
  rw [okv, wfv_tx, sz_tx, Bool.and_true, decide_eq_decide]
  omega
theorem okv_it (n : Int) : okv (it n) = true := by rw [okv, wfv_it, sz_it]; rfl
theorem okv_nil : okv nilP = true := by rw [okv, wfv_nil, sz_nil]; rfl
theorem tk_tx (s : ByteArray) : tk (tx s) = if s.size ≤ 999 then tx s else nilP := by
  rw [tk, okv_tx]
  by_cases h : s.size ≤ 999 <;> simp [h]
theorem tk_it (n : Int) : tk (it n) = it n := by rw [tk, okv_it]; rfl
theorem tk_nil : tk nilP = nilP := by rw [tk, okv_nil]; rfl
theorem norm_tx (s : ByteArray) : norm (tx s) = tx s := by rw [tx, norm, if_neg (by decide), if_neg (by decide), if_pos rfl]
theorem norm_it (n : Int) : norm (it n) = it n := by rw [it, norm, if_pos rfl]
theorem norm_nil : norm nilP = nilP := by rw [nilP, norm, if_neg (by decide), if_neg (by decide), if_neg (by decide), if_neg (by decide)]; rfl
theorem norm_ls (l : List PV) : norm (ls l) = ls (l.map norm) := by rw [ls, norm, if_neg (by decide), if_neg (by decide), if_neg (by decide), if_pos rfl, normL_map]; rfl
theorem textP_eq (s : ByteArray) : textP s = if s.size ≤ 999 then tx s else nilP := by
  show norm (tk (tx s)) = _
  rw [tk_tx]
  split
  · exact norm_tx s
  · exact norm_nil

/-- A list of two values, each as it is taken and as a copy keeps it. -/
theorem listP_two (a b : PV) (ha : norm (tk a) = tk a) (hb : norm (tk b) = tk b) (hwa : wfv (tk a) = true) (hwb : wfv (tk b) = true) :
    listP [a, b] = if 1 + sz (tk a) 1 + sz (tk b) 1 ≤ 1000 then ls [tk a, tk b] else nilP := by
  have h1 : listP [a, b] = cp (ls [tk a, tk b]) := by rw [listP, if_neg (by simp)]; rfl
  have hs : sz (ls [tk a, tk b]) 0 = if 1001 ≤ 1 + sz (tk a) 1 then 1001 else if 1001 ≤ 1 + sz (tk a) 1 + sz (tk b) 1 then 1001 else 1 + sz (tk a) 1 + sz (tk b) 1 := by
    rw [sz_ls _ _ (by decide), szL, szL, szL]
  have hk : okv (ls [tk a, tk b]) = decide (1 + sz (tk a) 1 + sz (tk b) 1 ≤ 1000) := by
    rw [okv, wfv_ls, wfvL, wfvL, wfvL, hwa, hwb, hs]
    simp only [Bool.and_true, decide_eq_decide]
    split
    · omega
    · split <;> omega
  rw [h1, cp, tk, hk]
  by_cases h : 1 + sz (tk a) 1 + sz (tk b) 1 ≤ 1000
  · simp only [h, decide_true, if_true]
    rw [norm_ls]
    simp [ha, hb]
  · simp only [h, decide_false, if_false]
    exact norm_nil

theorem sz_two (a b : PV) (h : 1 + sz a 1 + sz b 1 ≤ 1000) : sz (ls [a, b]) 0 = 1 + sz a 1 + sz b 1 := by
  rw [sz_ls _ _ (by decide), szL, szL, szL]
  show (if 1001 ≤ 1 + sz a 1 then 1001 else if 1001 ≤ 1 + sz a 1 + sz b 1 then 1001 else 1 + sz a 1 + sz b 1) = _
  rw [if_neg (by omega), if_neg (by omega)]

theorem okv_two (a b : PV) (h : 1 + sz a 1 + sz b 1 ≤ 1000) (hwa : wfv a = true) (hwb : wfv b = true) : okv (ls [a, b]) = true := by
  rw [okv, wfv_ls, wfvL, wfvL, wfvL, hwa, hwb, sz_two a b h]
  simpa using h

/-- A list of values each of which is as it is taken, as a copy keeps it, well formed and of size one. -/
def Ones (l : List PV) : Prop := ∀ x ∈ l, tk x = x ∧ norm x = x ∧ wfv x = true ∧ ∀ d, sz x d = 1

theorem Ones.wf {l : List PV} (h : Ones l) : wfvL l = true := by
  induction l with
  | nil => rfl
  | cons x xs ih => rw [wfvL, (h x (List.mem_cons_self ..)).2.2.1, ih (fun y hy => h y (List.mem_cons_of_mem _ hy))]; rfl

theorem Ones.szL {l : List PV} (h : Ones l) (d : Nat) : ∀ acc, acc ≤ 1000 → szL l d acc = min (acc + l.length) 1001 := by
  induction l with
  | nil => intro acc ha; rw [Proofs.Ytbkncdjmodeabaa.szL]; simp; omega
  | cons x xs ih =>
    intro acc ha
    rw [Proofs.Ytbkncdjmodeabaa.szL, (h x (List.mem_cons_self ..)).2.2.2 d]
    split
    · simp only [List.length_cons]; omega
    · rw [ih (fun y hy => h y (List.mem_cons_of_mem _ hy)) _ (by omega)]
      simp only [List.length_cons]
      omega

theorem Ones.ok {l : List PV} (h : Ones l) : okv (ls l) = decide (l.length ≤ 999) := by
  rw [okv, wfv_ls, h.wf, Bool.and_true, sz_ls _ _ (by decide), h.szL _ _ (by decide), decide_eq_decide]
  omega

theorem Ones.listP {l : List PV} (h : Ones l) : listP l = if l.length ≤ 999 then ls l else nilP := by
  have e1 : l.map tk = l := by rw [List.map_congr_left (g := id) fun x hx => (h x hx).1, List.map_id]
  have e2 : l.map norm = l := by rw [List.map_congr_left (g := id) fun x hx => (h x hx).2.1, List.map_id]
  rw [Proofs.Ytbkncdjmodeabaa.listP, e1]
  by_cases hb : l.length ≤ 999
  · rw [if_neg (by omega), if_pos hb]
    show norm (tk (ls l)) = _
    rw [tk, h.ok]
    simp only [hb, decide_true, if_true]
    rw [norm_ls, e2]
  · rw [if_pos (by omega), if_neg hb]

theorem ones_it (n : Int) : tk (it n) = it n ∧ norm (it n) = it n ∧ wfv (it n) = true ∧ ∀ d, sz (it n) d = 1 := ⟨tk_it n, norm_it n, wfv_it n, fun d => sz_it n d⟩
theorem ones_nil : tk nilP = nilP ∧ norm nilP = nilP ∧ wfv nilP = true ∧ ∀ d, sz nilP d = 1 := ⟨tk_nil, norm_nil, wfv_nil, sz_nil⟩
theorem Ones.app {l m : List PV} (h : Ones l) (k : Ones m) : Ones (l ++ m) := fun x hx => (List.mem_append.1 hx).elim (h x) (k x)
theorem Ones.nils (n : Nat) : Ones (List.replicate n nilP) := fun x hx => by rw [List.eq_of_mem_replicate hx]; exact ones_nil
theorem Ones.one (n : Int) : Ones [it n] := fun x hx => by rw [List.mem_singleton.1 hx]; exact ones_it n

end Go.Proofs.Ytbkncdjmodeabaa
