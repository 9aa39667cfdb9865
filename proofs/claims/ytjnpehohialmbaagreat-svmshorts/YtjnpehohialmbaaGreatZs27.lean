/- A value of the language as plain data;what it is that a world holds it;what stays so when the world grows. -/
import Derived.Below
import Derived.WalkKit
import Derived.Laws.FloatArith
import Derived.Test.YtjnpehohialmbaaGreatChecked
import Derived.WalkLawsBesides
import Derived.WalkSpells
import Derived.Laws.ComplexArith
import Derived.Deep.Draws
set_option linter.unusedSimpArgs false
namespace Go.Proofs.YtjnpehohialmbaaGreat
namespace V
open Go.RowKit
@[go_sem] theorem run_store_complex (P:Program) (w:World) (a:Addr) (m:Mode) (k:FloatKind) (x y:Nat):(store a (.complex k x y) m).run P w=stored P w a (.complex k x y) m:=run_store P w a _ m rfl
structure PV where
 k:Int
 n:Int
 re:Nat
 im:Nat
 s:ByteArray
 l:List PV
structure Bd (k n:Int) (re im:Nat) (s:ByteArray) (len cap:Nat):Prop where
 bk1:-9223372036854775808≤k
 bk2:k≤9223372036854775807
 bn1:-9223372036854775808≤n
 bn2:n≤9223372036854775807
 bre:re < 18446744073709551616
 bim:im < 18446744073709551616
 bs:s.size≤140737488355328
 b72:len * 72≤140737488355328
 bc:len≤cap
theorem Bd.bl {k n:Int} {re im:Nat} {s:ByteArray} {len cap:Nat} (h:Bd k n re im s len cap):len≤140737488355328:=by
 have:=h.b72;omega
mutual
/-- The world holds the value p as the Go value v;the blocks in which its lists lie are F's. -/
def Rep (w:World) (F:Nat→Prop):PV→Value→Prop
 | .mk k n re im s l,v => ∃ (a:Option Addr) (cap:Nat),v = .agg #[.int .i64 k,.int .i64 n,.complex .f64 re im,.string s,.slice a l.length cap]∧Bd k n re im s l.length cap∧RepL w F l a
/-- From the address a on the world holds the values of l,five cells each. -/
def RepL (w:World) (F:Nat→Prop):List PV→Option Addr→Prop
 | [],_=>True
 | x :: xs,a => ∃ b off c0 c1 c2 c3 c4,a=some ⟨b,off,none⟩∧F b∧Rep w F x (.agg #[c0,c1,c2,c3,c4]) ∧
   w.cell? ⟨b,off,none⟩=some c0∧w.cell? ⟨b,off+1,none⟩=some c1∧w.cell? ⟨b,off+2,none⟩=some c2∧w.cell? ⟨b,off+3,none⟩=some c3∧w.cell? ⟨b,off+4,none⟩=some c4 ∧
   RepL w F xs (some ⟨b,off+5,none⟩)
end
structure El (w:World) (F:Nat→Prop) (b o:Nat) (x:PV) (a:Option Addr) (cap:Nat):Prop where
 f:F b
 c0:w.cell? ⟨b,o,none⟩=some (.int .i64 x.k)
 c1:w.cell? ⟨b,o+1,none⟩=some (.int .i64 x.n)
 c2:w.cell? ⟨b,o+2,none⟩=some (.complex .f64 x.re x.im)
 c3:w.cell? ⟨b,o+3,none⟩=some (.string x.s)
 c4:w.cell? ⟨b,o+4,none⟩=some (.slice a x.l.length cap)
 bd:Bd x.k x.n x.re x.im x.s x.l.length cap
 sub:RepL w F x.l a
theorem RepL.get {w:World} {F:Nat→Prop}:∀ {l:List PV} {a:Option Addr},RepL w F l a→∀ (i:Nat) (x:PV),l[i]? = some x →
  ∃ b off a' cap',a=some ⟨b,off,none⟩∧El w F b (off+i * 5) x a' cap':=by
 intro l
 induction l with
 | nil=>intro a _ i x h;simp at h
 | cons y ys ih =>
  intro a h i x hx;rw[RepL] at h;obtain⟨b,off,c0,c1,c2,c3,c4,rfl,hf,hr,h0,h1,h2,h3,h4,hrest⟩:=h;cases i with
  | zero =>
   simp at hx;subst hx;cases y with
   | mk k n re im s l =>
    rw[Rep] at hr;obtain⟨a',cap',hv,hb,hl⟩:=hr;injection hv with hv;simp at hv;obtain⟨rfl,rfl,rfl,rfl,rfl⟩:=hv;refine⟨b,off,a',cap',rfl,?_⟩;have e:off+0 * 5=off:=by omega
    rw[e];exact⟨hf,h0,h1,h2,h3,h4,hb,hl⟩
  | succ j =>
   simp at hx;obtain⟨b',off',a',cap',he,hE⟩:=ih hrest j x hx;simp at he;obtain⟨rfl,rfl⟩:=he;refine⟨b,off,a',cap',rfl,?_⟩;have e:off+(j+1) * 5=off+5+j * 5:=by omega
   rw[e];exact hE
theorem RepL.cons {w:World} {F:Nat→Prop} {x:PV} {xs:List PV} {b off:Nat} {a:Option Addr} {cap:Nat} (h:El w F b off x a cap) (hs:RepL w F xs (some ⟨b,off+5,none⟩)):RepL w F (x :: xs) (some ⟨b,off,none⟩):=by
 cases x with
 | mk k n re im s l =>
  rw[RepL];refine⟨b,off,_,_,_,_,_,rfl,h.f,?_,h.c0,h.c1,h.c2,h.c3,h.c4,hs⟩;rw[Rep];exact⟨a,cap,rfl,h.bd,h.sub⟩
theorem El.rep {w:World} {F:Nat→Prop} {b o:Nat} {x:PV} {a:Option Addr} {cap:Nat} (h:El w F b o x a cap):Rep w F x (.agg #[.int .i64 x.k,.int .i64 x.n,.complex .f64 x.re x.im,.string x.s,.slice a x.l.length cap]):=by
 cases x with
 | mk k n re im s l=>rw[Rep];exact⟨a,cap,rfl,h.bd,h.sub⟩
mutual
theorem Rep.to {w w':World} {F F':Nat→Prop} (h:∀ b,F b→F' b∧w'.heap[b]? = w.heap[b]?):∀ (p:PV) (v:Value),Rep w F p v→Rep w' F' p v
 | .mk k n re im s l,v,hr=>by
  rw[Rep] at hr ⊢;obtain⟨a,cap,hv,hb,hl⟩:=hr;exact⟨a,cap,hv,hb,RepL.to h l a hl⟩
theorem RepL.to {w w':World} {F F':Nat→Prop} (h:∀ b,F b→F' b∧w'.heap[b]? = w.heap[b]?):∀ (l:List PV) (a:Option Addr),RepL w F l a→RepL w' F' l a
 | [],a,_=>by simp[RepL]
 | x :: xs,a,hr=>by
  rw[RepL] at hr ⊢;obtain⟨b,off,c0,c1,c2,c3,c4,rfl,hf,hx,h0,h1,h2,h3,h4,hxs⟩:=hr;have hc:∀ o,w'.cell? ⟨b,o,none⟩=w.cell? ⟨b,o,none⟩:=fun o=>World.cell?_of_block (w:=w) (h b hf).2;exact⟨b,off,c0,c1,c2,c3,c4,rfl,(h b hf).1,Rep.to h x _ hx,by rw[hc];exact h0,by rw[hc];exact h1,by rw[hc];exact h2,by rw[hc];exact h3,by rw[hc];exact h4,RepL.to h xs _ hxs⟩
end
def In (w:World):Nat→Prop:=fun b=>b < w.heap.size
def Ext (w w':World):Prop:=Below w.heap.size w w'
theorem Ext.refl (w:World):Ext w w:=Below.refl _ _
theorem Ext.trans {a b c:World} (h:Ext a b) (k:Ext b c):Ext a c:=Below.trans h (Below.mono k h.size)
theorem Ext.alloc (w:World) (o:Obj):Ext w (w.alloc o):=Below.alloc (Below.refl _ _) (Nat.le_refl _) o
theorem Ext.drew {a w:World} (h:Ext a w):Ext a w.drew:=Below.drew h
theorem Ext.le {w w':World} (h:Ext w w'):w.heap.size≤w'.heap.size:=h.size
theorem Ext.cell {w w':World} (h:Ext w w') {a:Addr} {v:Value} (hc:w.cell? a=some v):w'.cell? a=some v:=by
 rw[Below.cell h (World.block_lt_of_cell? w a hc)];exact hc
theorem cell_box (w:World) (cs:Array Value) (t:TypeId) (i:Nat) {v:Value} (hi:cs[i]? = some v):(w.alloc (.cells cs t)).cell? ⟨w.heap.size,i,none⟩=some v:=by
 rw[cell_of_row _ _ i cs t (0,0) (Go.heap_alloc_new w _)];exact hi
theorem Ext.box {w w':World} {cs:Array Value} {t:TypeId} (h:Ext (w.alloc (.cells cs t)) w') (i:Nat) {v:Value} (hi:cs[i]? = some v):w'.cell? ⟨w.heap.size,i,none⟩=some v :=
 h.cell (cell_box w cs t i hi)
theorem RepL.ext {w w':World} {l:List PV} {a:Option Addr} (hr:RepL w (In w) l a) (h:Ext w w'):RepL w' (In w') l a :=
 RepL.to (fun b hb=>⟨Nat.lt_of_lt_of_le hb h.size,h.block b hb⟩) l a hr
theorem Rep.ext {w w':World} {p:PV} {v:Value} (hr:Rep w (In w) p v) (h:Ext w w'):Rep w' (In w') p v :=
 Rep.to (fun b hb=>⟨Nat.lt_of_lt_of_le hb h.size,h.block b hb⟩) p v hr
theorem PV.byList {M:PV→Prop} (h:∀ k n re im s l,(∀ x ∈ l,M x)→M (.mk k n re im s l)):∀ p,M p:=by
 have go:∀ (m:Nat) (p:PV),SizeOf.sizeOf p≤m→M p:=by
  intro m
  induction m with
  | zero =>
   intro p hp;cases p with
   | mk k n re im s l=>simp at hp
  | succ m ih =>
   intro p hp;cases p with
   | mk k n re im s l =>
    refine h k n re im s l fun x hx=>ih x ?_;have:=List.sizeOf_lt_of_mem hx;simp at hp;omega
 exact fun p=>go _ p (Nat.le_refl _)
/-! ### What is told of a value -/
mutual
/-- How great a value is,d lists around it. -/
def sz:PV→Nat→Nat
 | .mk k _ _ _ s l,d=>if k=3 then min (1+s.size) 1001 else if k=4 then (if d=24 then 1001 else szL l (d+1) 1) else 1
def szL:List PV→Nat→Nat→Nat
 | [],_,n=>n
 | x :: xs,d,n=>if 1001≤n+sz x d then 1001 else szL xs d (n+sz x d)
end
theorem szL_step {l:List PV} {j:Nat} {x:PV} (h:l[j]? = some x) (d acc:Nat):szL (l.drop j) d acc=if 1001≤acc+sz x d then 1001 else szL (l.drop (j+1)) d (acc+sz x d):=by
 obtain⟨hj,rfl⟩:=List.getElem?_eq_some_iff.1 h;rw[List.drop_eq_getElem_cons hj,szL]
mutual
theorem sz_le:∀ (p:PV) (d:Nat),sz p d≤1001
 | .mk k n re im s l,d=>by
  rw[sz];have:=szL_le l (d+1) 1 (by omega)
  split
  ·omega
  ·split
   ·split
    ·omega
    ·exact this
   ·omega
theorem szL_le:∀ (l:List PV) (d n:Nat),n≤1001→szL l d n≤1001
 | [],d,n,h=>by rw[szL];exact h
 | x :: xs,d,n,h=>by
  rw[szL]
  split
  ·omega
  ·exact szL_le xs d _ (by omega)
end
end V
namespace V
abbrev D:Ieee.Format:=FloatKind.f64.format
def fin (x:Nat):Bool:=match D.read x with | .number ..=>true | _=>false
def nought (x:Nat):Bool:=D.order x 0 == some .eq
def part (x:Nat):Nat:=if nought x then 0 else x
theorem D_binade:D.binade=4503599627370496:=by rfl
theorem D_sign:D.signWeight=9223372036854775808:=by rfl
theorem D_inf:D.infRung=9218868437227405312:=by rfl
theorem D_least:D.leastPlace = -1074:=by rfl
theorem read_eq (x:Nat):D.read x =
  if x % 9223372036854775808 < 4503599627370496 then .number (x / 9223372036854775808 % 2 == 1) (x % 9223372036854775808) (-1074)
  else if x % 9223372036854775808 < 9218868437227405312 then
   .number (x / 9223372036854775808 % 2 == 1) (4503599627370496+x % 9223372036854775808 % 4503599627370496) (-1074+(x % 9223372036854775808 / 4503599627370496 - 1:Nat))
  else if x % 9223372036854775808=9218868437227405312 then .infinity (x / 9223372036854775808 % 2 == 1)
  else .nan (x / 9223372036854775808 % 2 == 1) (x % 9223372036854775808 - 9218868437227405312):=by
 unfold Ieee.Format.read;rw[D_binade,D_sign,D_inf,D_least]
theorem fin_eq (x:Nat):fin x=decide (x % 9223372036854775808 < 9218868437227405312):=by
 unfold fin;rw[read_eq];by_cases h1:x % 9223372036854775808 < 4503599627370496
 ·rw[if_pos h1,eq_comm,decide_eq_true_eq];omega
 ·rw[if_neg h1]
  by_cases h2:x % 9223372036854775808 < 9218868437227405312
  ·rw[if_pos h2,eq_comm,decide_eq_true_eq];exact h2
  ·rw[if_neg h2]
   by_cases h3:x % 9223372036854775808=9218868437227405312
   ·rw[if_pos h3,eq_comm,decide_eq_false_iff_not];exact h2
   ·rw[if_neg h3,eq_comm,decide_eq_false_iff_not];exact h2
theorem fin_read {x:Nat} (h:fin x=true):∃ s m i,D.read x = .number s m i∧m < 9007199254740992∧-1074≤i∧i≤971:=by
 rw[fin_eq,decide_eq_true_eq] at h;rw[read_eq];by_cases h1:x % 9223372036854775808 < 4503599627370496
 ·rw[if_pos h1];exact⟨_,_,_,rfl,by omega,by omega,by omega⟩
 ·rw[if_neg h1,if_pos h]
  exact⟨_,_,_,rfl,by omega,by omega,by omega⟩
theorem not_fin_read {x:Nat} (h:fin x=false):(∃ s,D.read x = .infinity s)∨∃ s t,D.read x = .nan s t:=by
 rw[fin_eq,decide_eq_false_iff_not] at h;rw[read_eq,if_neg (by omega),if_neg h]
 split
 ·exact .inl ⟨_,rfl⟩
 ·exact .inr ⟨_,_,rfl⟩
theorem read_max:D.read 9218868437227405311 = .number false 9007199254740991 971:=by rfl
theorem read_min:D.read 18442240474082181119 = .number true 9007199254740991 971:=by rfl
theorem shiftLeft_mono (m n k:Nat) (h:m≤n):m≤n <<< k:=by
 rw[Nat.shiftLeft_eq];exact Nat.le_trans h (Nat.le_mul_of_pos_right _ (Nat.two_pow_pos _))
theorem ord_self {x:Nat} (h:fin x=true):D.order x x=some .eq:=by
 obtain⟨s,m,i,hr,_⟩:=fin_read h;unfold Ieee.Format.order;rw[hr];simp[Ieee.Datum.order]
theorem ord_max {x:Nat} (h:fin x=true):D.order x 9218868437227405311=some .lt∨D.order x 9218868437227405311=some .eq:=by
 obtain⟨s,m,i,hr,hm,hi,hj⟩:=fin_read h;unfold Ieee.Format.order;rw[hr,read_max];have e:min i 971=i:=by omega
 simp only[Ieee.Datum.order,e,Option.some.injEq];have h1:=shiftLeft_mono m 9007199254740991 (971 - i).toNat (by omega);have h2:Ieee.signed s m (i - i).toNat≤Ieee.signed false 9007199254740991 (971 - i).toNat:=by
  unfold Ieee.signed;simp only[Int.sub_self,Int.toNat_zero,Nat.shiftLeft_zero,Bool.false_eq_true,if_false]
  split <;> omega
 rw[Int.compare_eq_lt,Int.compare_eq_eq];omega
theorem ord_min {x:Nat} (h:fin x=true):D.order x 18442240474082181119=some .gt∨D.order x 18442240474082181119=some .eq:=by
 obtain⟨s,m,i,hr,hm,hi,hj⟩:=fin_read h;unfold Ieee.Format.order;rw[hr,read_min];have e:min i 971=i:=by omega
 simp only[Ieee.Datum.order,e,Option.some.injEq];have h1:=shiftLeft_mono m 9007199254740991 (971 - i).toNat (by omega);have h2:Ieee.signed true 9007199254740991 (971 - i).toNat≤Ieee.signed s m (i - i).toNat:=by
  unfold Ieee.signed;simp only[Int.sub_self,Int.toNat_zero,Nat.shiftLeft_zero,if_true]
  split <;> omega
 rw[Int.compare_eq_gt,Int.compare_eq_eq];omega
theorem fin_ref (x:Nat):fin x=((D.order x x == some .eq) && (D.order x 9218868437227405311 == some .lt || D.order x 9218868437227405311 == some .eq) && (D.order x 18442240474082181119 == some .gt || D.order x 18442240474082181119 == some .eq)):=by
 cases h:fin x with
 | true =>
  rw[ord_self h];rcases ord_max h with e | e <;> rcases ord_min h with f | f <;> rw[e,f] <;> rfl
 | false =>
  unfold Ieee.Format.order;rw[read_max,read_min];rcases not_fin_read h with⟨s,hr⟩ | ⟨s,t,hr⟩ <;> rw[hr]
  ·cases s <;> rfl
  ·rfl
theorem fin_prog (x:Nat):fin x=(!(D.order (x % 9223372036854775808) 9218868437227405311 == some .gt) && !(D.order x x != some .eq)):=by
 have hm:x % 9223372036854775808 % 9223372036854775808=x % 9223372036854775808:=by omega
 have hd:x % 9223372036854775808 / 9223372036854775808 % 2=0:=by omega
 cases h:fin x with
 | true =>
  have h':fin (x % 9223372036854775808)=true:=by rw[fin_eq,hm,← fin_eq];exact h
  rw[ord_self h];rcases ord_max h' with e | e <;> rw[e] <;> rfl
 | false =>
  have h':fin (x % 9223372036854775808)=false:=by rw[fin_eq,hm,← fin_eq];exact h
  unfold Ieee.Format.order;rw[read_max];rcases not_fin_read h with⟨s,hr⟩ | ⟨s,t,hr⟩
  ·have:D.read (x % 9223372036854775808) = .infinity false:=by
    rw[read_eq] at hr ⊢;rw[hm,hd]
    repeat' split at hr
    all_goals simp_all
   rw[this,hr];cases s <;> rfl
  ·rw[hr]
   simp[Ieee.Datum.order]
def nan (x:Nat):Bool:=(D.read x).isNaN
end V
namespace V
def Hd (p:Prop):Prop:=p
theorem zh {p:Prop} (h:p):Hd p:=h
theorem zu {p:Prop} (h:Hd p):p:=h
def Wd (x:Nat):Prop:=x < 18446744073709551616
@[go_sem] theorem call_bits (x:Nat) (w:World):(callFunc 173 #[.float .f64 x]).run Tryz.prog w = .ok (.value (.int .u64 x)) w:=by kernel_rfl
@[go_sem] theorem call_frombits (n:Int) (w:World):(callFunc 191 #[.int .u64 n]).run Tryz.prog w = .ok (.value (.float .f64 n.toNat)) w:=by kernel_rfl
theorem ret_float {a b:Nat} (h:a=b):Ending.returned (.float .f64 a) = .returned (.float .f64 b):=by rw[h]
theorem ret_bool {a b:Bool} (h:a=b):Ending.returned (.bool a) = .returned (.bool b):=by rw[h]
theorem abs_bits (x:Nat) (hx:x < 18446744073709551616):(bits .andNot .u64 (x:Int) 9223372036854775808).toNat=x % 9223372036854775808:=by
 have h:=u64_andNot_nat x 9223372036854775808 hx (by decide);have e:((9223372036854775808:Nat):Int)=9223372036854775808:=rfl;rw[e] at h;rw[h,Int.toNat_natCast];exact Nat.and_two_pow_sub_one_eq_mod x 63
theorem abs_any (x:Nat) (w:World) (hx:Wd x) :
  Calls Tryz.prog 189 #[.float .f64 x] w fun e w'=>e = .returned (.float .f64 (x % 9223372036854775808))∧w' = w:=by
 have h:=abs_bits x hx
 go_enter Tryz.func189,Tryz.ntmps189
 go_wp2
 go_ret;exact⟨ret_float (by first | rfl | exact h),rfl⟩
theorem isnan_any (x:Nat) (w:World) :
  Calls Tryz.prog 185 #[.float .f64 x] w fun e w'=>e = .returned (.bool (D.order x x != some .eq))∧w' = w:=by
 go_enter Tryz.func185,Tryz.ntmps185
 go_wp2
 go_ret;exact⟨rfl,rfl⟩
theorem isinf_any (x:Nat) (w:World) (hx:Wd x) :
  Calls Tryz.prog 184 #[.float .f64 x,.int .i64 0] w fun e w'=>e = .returned (.bool (D.order (x % 9223372036854775808) 9218868437227405311 == some .gt))∧w' = w:=by
 go_enter Tryz.func184,Tryz.ntmps184
 go_wp2_with (go_at_call 189;refine(abs_any _ _ hx).mono ?_;rintro e w' ⟨rfl,rfl⟩)
 go_ret;exact⟨rfl,rfl⟩
theorem signbit_any (x:Nat) (w:World) (hx:Wd x) :
  Calls Tryz.prog 147 #[.float .f64 x] w fun e w'=>e = .returned (.bool (decide (9223372036854775808≤x)))∧w' = w:=by
 unfold Wd at hx
 go_enter Tryz.func147,Tryz.ntmps147
 go_wp2
 go_ret;refine⟨ret_bool ?_,rfl⟩;simp only[decide_eq_decide,RowKit.wrap64];omega
theorem finite_any (x:Nat) (w:World) (hx:Wd x) :
  Calls Tryz.prog 179 #[.float .f64 x] w fun e w'=>e = .returned (.bool (fin x))∧w' = w:=by
 have hf:=fin_prog x;cases hA:(D.order (x % 9223372036854775808) 9218868437227405311 == some .gt) <;> cases hB:(D.order x x != some .eq)
 all_goals
  rw[hA,hB] at hf
  go_enter Tryz.func179,Tryz.ntmps179
  go_wp2_with (first | (go_at_call 184;refine(isinf_any _ _ hx).mono ?_;rintro e w' ⟨rfl,rfl⟩) | (go_at_call 185;refine(isnan_any _ _).mono ?_;rintro e w' ⟨rfl,rfl⟩))
  go_ret;exact⟨ret_bool (by rw[hf];rfl),rfl⟩
def neg0 (x:Nat):Bool:=nought x && decide (9223372036854775808≤x)
def okB (re im:Nat):Bool:=(fin re && !neg0 re) && (fin im && !neg0 im)
def fin2 (re im:Nat):Bool:=fin re && fin im
def cl1 (re im:Nat):Nat:=if fin2 re im then part re else 0
def cl2 (re im:Nat):Nat:=if fin2 re im then part im else 0
def clE (re im:Nat):Int:=if fin2 re im then 0 else 5
theorem rfinite_any (x:Nat) (w:World) :
  Calls Tryz.prog 98 #[.float .f64 x] w fun e w'=>e = .returned (.bool (fin x))∧w' = w:=by
 have hf:=fin_ref x;cases hA:(D.order x x == some .eq) <;> cases hB:(D.order x 9218868437227405311 == some .lt || D.order x 9218868437227405311 == some .eq) <;> cases hC:(D.order x 18442240474082181119 == some .gt || D.order x 18442240474082181119 == some .eq)
 all_goals
  rw[hA,hB,hC] at hf
  go_enter Tryz.func98,Tryz.ntmps98
  go_wp2
  go_ret;exact⟨ret_bool (by rw[hf];rfl),rfl⟩
theorem part_any (x:Nat) (w:World) :
  Calls Tryz.prog 183 #[.float .f64 x] w fun e w'=>e = .returned (.float .f64 (part x))∧w' = w:=by
 cases hA:(D.order x 0 == some .eq)
 all_goals
  have hp:part x=if nought x then 0 else x:=rfl
  unfold nought at hp;rw[hA] at hp
  go_enter Tryz.func183,Tryz.ntmps183
  go_wp2
  go_ret;exact⟨ret_float (by first | rfl | (rw[hp];rfl)),rfl⟩
theorem rpart_any (x:Nat) (w:World) :
  Calls Tryz.prog 99 #[.float .f64 x] w fun e w'=>e = .returned (.float .f64 (part x))∧w' = w:=by
 cases hA:(D.order x 0 == some .eq)
 all_goals
  have hp:part x=if nought x then 0 else x:=rfl
  unfold nought at hp;rw[hA] at hp
  go_enter Tryz.func99,Tryz.ntmps99
  go_wp2
  go_ret;exact⟨ret_float (by first | rfl | (rw[hp];rfl)),rfl⟩
theorem ret_cx {a b c d:Nat} {e f:Int} (h1:a=b) (h2:c=d) (h3:e=f):Ending.returned (.tuple #[.complex .f64 a c,.int .i64 e]) = .returned (.tuple #[.complex .f64 b d,.int .i64 f]):=by rw[h1,h2,h3]
theorem clean_any (re im:Nat) (w:World) (h1:Wd re) (h2:Wd im) :
  Calls Tryz.prog 177 #[.complex .f64 re im] w fun e w'=>e = .returned (.tuple #[.complex .f64 (cl1 re im) (cl2 re im),.int .i64 (clE re im)])∧w' = w:=by
 cases hA:fin re <;> cases hB:fin im
 all_goals
  have k1:cl1 re im=if fin re && fin im then part re else 0:=rfl
  have k2:cl2 re im=if fin re && fin im then part im else 0:=rfl
  have k3:clE re im=if fin re && fin im then 0 else 5:=rfl
  rw[hA,hB] at k1 k2 k3;have K1:=zh k1;have K2:=zh k2;have K3:=zh k3;clear k1 k2 k3
  go_enter Tryz.func177,Tryz.ntmps177
  go_wp2_with (first | (go_at_call 179;refine(finite_any _ _ ?_).mono ?_;assumption;rintro e w' ⟨rfl,rfl⟩) | (go_at_call 183;refine(part_any _ _).mono ?_;rintro e w' ⟨rfl,rfl⟩))
  go_ret2
  exact⟨ret_cx (zu K1).symm (zu K2).symm (zu K3).symm,rfl⟩
theorem rclean_any (re im:Nat) (w:World) :
  Calls Tryz.prog 70 #[.complex .f64 re im] w fun e w'=>e = .returned (.tuple #[.complex .f64 (cl1 re im) (cl2 re im),.int .i64 (clE re im)])∧w' = w:=by
 cases hA:fin re <;> cases hB:fin im
 all_goals
  have k1:cl1 re im=if fin re && fin im then part re else 0:=rfl
  have k2:cl2 re im=if fin re && fin im then part im else 0:=rfl
  have k3:clE re im=if fin re && fin im then 0 else 5:=rfl
  rw[hA,hB] at k1 k2 k3;have K1:=zh k1;have K2:=zh k2;have K3:=zh k3;clear k1 k2 k3
  go_enter Tryz.func70,Tryz.ntmps70
  go_wp2_with (first | (go_at_call 98;refine(rfinite_any _ _).mono ?_;rintro e w' ⟨rfl,rfl⟩) | (go_at_call 99;refine(rpart_any _ _).mono ?_;rintro e w' ⟨rfl,rfl⟩))
  go_ret2
  exact⟨ret_cx (zu K1).symm (zu K2).symm (zu K3).symm,rfl⟩
theorem sound_any (re im:Nat) (w:World) (h1:Wd re) (h2:Wd im) :
  Calls Tryz.prog 176 #[.complex .f64 re im] w fun e w'=>e = .returned (.complex .f64 (cl1 re im) (cl2 re im))∧w' = w:=by
 go_enter Tryz.func176,Tryz.ntmps176
 go_wp2_with (go_at_call 177;refine(clean_any _ _ _ h1 h2).mono ?_;rintro e w' ⟨rfl,rfl⟩)
 go_ret;exact⟨rfl,rfl⟩
end V
namespace V
def o1 (p q:Option Nat):Nat:=match p,q with | some x,some y=>cl1 x y | _,_ => 0
def o2 (p q:Option Nat):Nat:=match p,q with | some x,some y=>cl2 x y | _,_ => 0
def sqN (c d:Nat):Option Nat:=(D.mul c c).bind fun p=>(D.mul d d).bind fun q=>D.add p q
def divP (a b c d n:Nat):Option Nat:=((D.mul a c).bind fun p=>(D.mul b d).bind fun q=>D.add p q).bind fun x=>D.div x n
def divQ (a b c d n:Nat):Option Nat:=((D.mul b c).bind fun p=>(D.mul a d).bind fun q=>D.sub p q).bind fun x=>D.div x n
def badN (n:Nat):Bool:=nought n || !fin n
def q1 (a b c d:Nat):Nat:=if nought c && nought d then 0 else match sqN c d with | none => 0 | some n=>if badN n then 0 else o1 (divP a b c d n) (divQ a b c d n)
def q2 (a b c d:Nat):Nat:=if nought c && nought d then 0 else match sqN c d with | none => 0 | some n=>if badN n then 0 else o2 (divP a b c d n) (divQ a b c d n)
end V
namespace V
def ng (x:Nat):Nat:=Op.negFloat .f64 x
@[go_sem] theorem unary_ng (x:Nat):Op.unary .neg (.float .f64 x)=pure (.float .f64 (ng x)):=rfl
theorem same_any (a b c d:Nat) (w:World) (ha:Wd a) (hb:Wd b) (hc:Wd c) (hd:Wd d) :
  Calls Tryz.prog 186 #[.complex .f64 a b,.complex .f64 c d] w fun e w'=>e = .returned (.bool ((D.order (cl1 a b) (cl1 c d) == some .eq) && (D.order (cl2 a b) (cl2 c d) == some .eq)))∧w' = w:=by
 go_enter Tryz.func186,Tryz.ntmps186
 go_wp2_with (go_at_call 176;refine(sound_any _ _ _ ?_ ?_).mono ?_;assumption;assumption;rintro e w' ⟨rfl,rfl⟩)
 go_ret;exact⟨rfl,rfl⟩
theorem soundPart_any (x:Nat) (w:World) (hx:Wd x) :
  Calls Tryz.prog 174 #[.float .f64 x] w fun e w'=>e = .returned (.bool (fin x && !neg0 x))∧w' = w:=by
 have hr:neg0 x=((D.order x 0 == some .eq) && decide (9223372036854775808≤x)):=rfl;have K:=zh hr;clear hr;cases hA:fin x <;> cases hB:(D.order x 0 == some .eq)
 all_goals
  go_enter Tryz.func174,Tryz.ntmps174
  go_wp2_with (first | (go_at_call 179;refine(finite_any _ _ ?_).mono ?_;assumption;rintro e w' ⟨rfl,rfl⟩) | (go_at_call 147;refine(signbit_any _ _ ?_).mono ?_;assumption;rintro e w' ⟨rfl,rfl⟩))
  go_ret;exact⟨ret_bool (by rw[zu K,hB];simp),rfl⟩
theorem rminus_any (x:Nat) (w:World) (hx:Wd x) :
  Calls Tryz.prog 120 #[.float .f64 x] w fun e w'=>e = .returned (.bool (neg0 x))∧w' = w:=by
 have hr:neg0 x=((D.order x 0 == some .eq) && decide (9223372036854775808≤x)):=rfl;have K:=zh hr;clear hr;cases hB:(D.order x 0 == some .eq)
 all_goals
  go_enter Tryz.func120,Tryz.ntmps120
  go_wp2_with (go_at_call 147;refine(signbit_any _ _ ?_).mono ?_;assumption;rintro e w' ⟨rfl,rfl⟩)
  go_ret;exact⟨ret_bool (by rw[zu K,hB];simp),rfl⟩
theorem ok_any (a b:Nat) (w:World) (ha:Wd a) (hb:Wd b) :
  Calls Tryz.prog 149 #[.complex .f64 a b] w fun e w'=>e = .returned (.bool (okB a b))∧w' = w:=by
 have hr:okB a b=((fin a && !neg0 a) && (fin b && !neg0 b)):=rfl;have K:=zh hr;clear hr;cases hA:(fin a && !neg0 a)
 all_goals
  go_enter Tryz.func149,Tryz.ntmps149
  go_wp2_with (go_at_call 174;refine(soundPart_any _ _ ?_).mono ?_;assumption;rintro e w' ⟨rfl,rfl⟩)
  go_ret;exact⟨ret_bool (by rw[zu K,hA];simp),rfl⟩
theorem rok_any (a b:Nat) (w:World) (ha:Wd a) (hb:Wd b) :
  Calls Tryz.prog 100 #[.complex .f64 a b] w fun e w'=>e = .returned (.bool (okB a b))∧w' = w:=by
 have hr:okB a b=((fin a && !neg0 a) && (fin b && !neg0 b)):=rfl;have K:=zh hr;clear hr;cases hA:fin a <;> cases hB:fin b <;> cases hC:neg0 a <;> cases hD:neg0 b
 all_goals
  go_enter Tryz.func100,Tryz.ntmps100
  go_wp2_with (first | (go_at_call 98;refine(rfinite_any _ _).mono ?_;rintro e w' ⟨rfl,rfl⟩) | (go_at_call 120;refine(rminus_any _ _ ?_).mono ?_;assumption;rintro e w' ⟨rfl,rfl⟩))
  go_ret;exact⟨ret_bool (by rw[zu K,hA,hB,hC,hD];rfl),rfl⟩
end V
end Go.Proofs.YtjnpehohialmbaaGreat
