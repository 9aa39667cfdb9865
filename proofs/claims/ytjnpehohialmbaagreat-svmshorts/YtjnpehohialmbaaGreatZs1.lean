/- Words as plain lists of bytes: which bytes stand together,what is skipped ahead of a word,what digits spell. -/
import Derived.Lib.ParseIntB
import Derived.Laws.Strings
import Derived.Test.YtjnpehohialmbaaGreatChecked
import Derived.WalkKit
import Derived.WalkLawsBesides
import Derived.WalkSpells
import Derived.WalkMore
import Derived.ScopeJumps
import Derived.Below
import Derived.Deep.Draws
import Derived.Test.YtjnpehohialmbaaGreatShelf
import Derived.Lib.ConvBytes
import Derived.Lib.AtoiErrMem
set_option linter.unusedSimpArgs false
set_option maxRecDepth 10000
set_option linter.unusedVariables false
namespace Go.Proofs.YtjnpehohialmbaaGreat
section
def Hd (p:Prop):Prop:=p
theorem zh {p:Prop} (h:p):Hd p:=h
theorem zu {p:Prop} (h:Hd p):p:=h
def L (s:ByteArray):List UInt8:=s.data.toList
theorem L_len (s:ByteArray):(L s).length=s.size:=by simp[L]
theorem L_mk (l:List UInt8):L ⟨l.toArray⟩=l:=rfl
theorem mk_L (s:ByteArray):(⟨(L s).toArray⟩:ByteArray)=s:=by
 apply ByteArray.ext;simp[L]
theorem L_inj {s t:ByteArray} (h:L s=L t):s=t:=by rw[← mk_L s,← mk_L t,h]
theorem L_drop (s:ByteArray) (k:Nat) (h:k < s.size):(L s).drop k=s[k] :: (L s).drop (k+1):=by
 rw[List.drop_eq_getElem_cons (by rw[L_len];exact h)];rfl
theorem L_end (s:ByteArray) (k:Nat) (h:s.size≤k):(L s).drop k = []:=List.drop_of_length_le (by rw[L_len];exact h)
theorem L_get (s:ByteArray) (k:Nat) (h:k < s.size):(L s)[k]? = some s[k]:=by
 rw[List.getElem?_eq_getElem (by rw[L_len];exact h)];rfl
theorem L_extract (s:ByteArray) (a b:Nat):L (s.extract a b)=((L s).drop a).take (b - a):=by
 simp only[L,ByteArray.data_extract,Array.toList_extract,List.extract_eq_take_drop]
theorem L_append (s t:ByteArray):L (s++t)=L s++L t:=by
 simp only[L,ByteArray.data_append,Array.toList_append]
def dg (c:UInt8):Bool:=decide (48≤c.toNat) && decide (c.toNat≤57)
def nm (c:UInt8):Bool:=decide (97≤c.toNat) && decide (c.toNat≤122) || (decide (65≤c.toNat) && decide (c.toNat≤90) || (c.toNat == 95 || dg c))
def ln (c:UInt8):Bool:=c.toNat != 10
def bl (c:UInt8):Bool:=c.toNat == 32 || (c.toNat == 9 || (c.toNat == 10 || c.toNat == 13))
theorem dg_iff (c:UInt8):dg c=true ↔ 48≤c.toNat∧c.toNat≤57:=by simp[dg]
theorem nm_iff (c:UInt8):nm c=true ↔ (97≤c.toNat∧c.toNat≤122)∨(65≤c.toNat∧c.toNat≤90)∨c.toNat=95∨(48≤c.toNat∧c.toNat≤57):=by simp[nm,dg]
theorem ln_iff (c:UInt8):ln c=true ↔ c.toNat≠10:=by simp[ln]
theorem bl_iff (c:UInt8):bl c=true ↔ c.toNat=32∨c.toNat=9∨c.toNat=10∨c.toNat=13:=by simp[bl]
def run (p:UInt8→Bool):List UInt8→Nat
 | [] => 0
 | c :: r=>if p c then 1+run p r else 0
theorem run_le (p:UInt8→Bool):∀ l,run p l≤l.length
 | []=>Nat.le_refl _
 | c :: r=>by
  have:=run_le p r;rw[run]
  split
  ·simp only[List.length_cons];omega
  ·exact Nat.zero_le _
theorem run_take {p:UInt8→Bool}:∀ (l:List UInt8),∀ c ∈ l.take (run p l),p c=true
 | [],c,h=>by simp at h
 | x :: r,c,h=>by
  rw[run] at h
  split at h
  ·rename_i hx
   rw[Nat.add_comm,List.take_succ_cons] at h;rcases List.mem_cons.1 h with rfl | h
   ·exact hx
   ·exact run_take r c h
  ·simp at h
theorem run_pos {p:UInt8→Bool} {c:UInt8} {r:List UInt8} (h:p c=true):1≤run p (c :: r):=by rw[run,if_pos h];omega
def skp:Bool→List UInt8→Nat
 | _,[] => 0
 | true,c :: r=>if c.toNat=10 then 1+skp false r else 1+skp true r
 | false,c :: r=>if bl c then 1+skp false r else if c.toNat=35 then 1+skp true r else 0
theorem skp_le:∀ (l:List UInt8) (b:Bool),skp b l≤l.length
 | [],b=>by cases b <;> exact Nat.le_refl _
 | c :: r,b=>by
  have h1:=skp_le r true;have h2:=skp_le r false;cases b <;> rw[skp]
  ·split
   ·simp only[List.length_cons];omega
   ·split
    ·simp only[List.length_cons];omega
    ·omega
  ·split <;> simp only[List.length_cons] <;> omega
theorem skp_true:∀ l,skp true l=run ln l+skp false (l.drop (run ln l))
 | []=>rfl
 | c :: r=>by
  rw[skp,run];by_cases h:c.toNat=10
  ·have hb:bl c=true:=by rw[bl_iff];omega
   have hl:ln c=false:=by simp[ln,h]
   rw[if_pos h,hl,if_neg (by decide),List.drop_zero,skp,if_pos hb];omega
  ·have hl:ln c=true:=by rw[ln_iff];exact h
   rw[if_neg h,if_pos hl,Nat.add_comm 1 (run ln r),List.drop_succ_cons,skp_true r];omega
theorem skp_mark (c:UInt8) (r:List UInt8) (h:c.toNat=35):skp false (c :: r)=run ln (c :: r)+skp false ((c :: r).drop (run ln (c :: r))):=by
 have hl:ln c=true:=by rw[ln_iff];omega
 have hb:bl c=false:=by
  rw[← Bool.not_eq_true,bl_iff];omega
 rw[skp,hb,if_neg (by decide),if_pos h,skp_true r,run,if_pos hl,Nat.add_comm 1 (run ln r),List.drop_succ_cons];omega
def dv (a:Nat) (l:List UInt8):Nat:=l.foldl (fun x c=>x * 10+(c.toNat - 48)) a
theorem dv_nil (a:Nat):dv a []=a:=rfl
theorem dv_cons (a:Nat) (c:UInt8) (r:List UInt8):dv a (c :: r)=dv (a * 10+(c.toNat - 48)) r:=by unfold dv;rw[List.foldl_cons]
theorem dv_ge (l:List UInt8):∀ a,a≤dv a l:=by
 induction l with
 | nil=>intro a;rw[dv_nil];exact Nat.le_refl _
 | cons c r ih =>
  intro a;have:=ih (a * 10+(c.toNat - 48));rw[dv_cons];omega
theorem parseM (M:Nat) (hM:M=18446744073709551615) (l:List UInt8):∀ a,(∀ c ∈ l,dg c=true)→a≤M →
  Lib.parseUintM M a l=if dv a l≤M then .ok (dv a l) else .range:=by
 induction l with
 | nil=>intro a _ ha;rw[Lib.parseUintM,dv_nil,if_pos ha]
 | cons c r ih =>
  intro a h ha;have hc:=(dg_iff c).1 (h c (by simp));have hg:=dv_ge r (a * 10+(c.toNat - 48));rw[Lib.parseUintM,if_pos hc,dv_cons];by_cases h1:1844674407370955162≤a
  ·rw[if_pos h1,if_neg (by omega)]
  ·rw[if_neg h1]
   by_cases h2:M < a * 10+(c.toNat - 48)
   ·rw[if_pos h2,if_neg (by omega)]
   ·rw[if_neg h2]
    exact ih _ (fun x hx=>h x (by simp[hx])) (by omega)
theorem parse_digits (l:List UInt8) (hne:l≠[]) (h:∀ c ∈ l,dg c=true) :
  Lib.parseIntB 64 l=if dv 0 l≤9223372036854775807 then .ok (dv 0 l:Int) else .range:=by
 cases l with
 | nil=>exact absurd rfl hne
 | cons c r =>
  have hc:=(dg_iff c).1 (h c (by simp));have hs:¬ (c.toNat=43∨c.toNat=45):=by omega
  have h45:¬ c.toNat=45:=by omega
  have e:=parseM (2 ^ 64 - 1) rfl (c :: r) 0 h (by omega);unfold Lib.parseIntB Lib.parseUintB;simp only[if_neg hs,if_neg hne];rw[e];by_cases h1:dv 0 (c :: r)≤2 ^ 64 - 1
  ·rw[if_pos h1]
   by_cases h2:dv 0 (c :: r)≤9223372036854775807
   ·simp only[h45,not_false_eq_true,true_and,false_and,if_false]
    rw[if_neg (by omega),if_pos h2]
   ·simp only[h45,not_false_eq_true,true_and,false_and,if_false]
    rw[if_pos (by omega),if_neg h2]
  ·rw[if_neg h1,if_neg (by omega)]
end
section
open Go.RowKit
theorem ret_bool {a b:Bool} (h:a=b):Ending.returned (.bool a) = .returned (.bool b):=by rw[h]
theorem nm_dg (c:UInt8) (h:c.toNat < 65):nm c=dg c:=by
 rw[Bool.eq_iff_iff,nm_iff,dg_iff];omega
theorem nm_yes (c:UInt8) (h:(97≤c.toNat∧c.toNat≤122)∨(65≤c.toNat∧c.toNat≤90)∨c.toNat=95):nm c=true:=by
 rw[nm_iff];omega
theorem nm_no (c:UInt8) (h:(90 < c.toNat∧c.toNat < 95)∨c.toNat=96∨122 < c.toNat):nm c=dg c:=by
 rw[Bool.eq_iff_iff,nm_iff,dg_iff];omega
end
section
open Go.RowKit
theorem toL (s:ByteArray):s.toList=L s:=ByteArray.toList_eq s
def wordL (l:List UInt8):Bool:=l == [102,110] || l == [108,101,116] || l == [105,102] || l == [101,108,115,101] || l == [119,104,105,108,101] || l == [98,114,101,97,107] || l == [99,111,110,116,105,110,117,101] || l == [114,101,116,117,114,110] || l == [112,114,105,110,116] || l == [110,105,108]
def o2 (l:List UInt8):Bool:=l == [61,61] || l == [33,61] || l == [60,61] || l == [62,61] || l == [38,38] || l == [124,124]
def o1 (l:List UInt8):Bool:=l == [40] || l == [41] || l == [123] || l == [125] || l == [91] || l == [93] || l == [44] || l == [59] || l == [61] || l == [43] || l == [45] || l == [42] || l == [47] || l == [37] || l == [60] || l == [62] || l == [33]
def opL (l:List UInt8):Nat:=if o2 (l.take 2) then 2 else if o1 (l.take 1) then 1 else 0
def sg:List UInt8→UInt8 × Nat
 | []=>(0,0)
 | [c]=>if c.toNat=92 then (0,0) else (c,1)
 | c :: d :: _=>if c.toNat=92 then (if d.toNat=34∨d.toNat=92 then (d,2) else if d.toNat=110 then (10,2) else (0,0)) else (c,1)
end
section
open Go.RowKit
def Ext (w w':World):Prop:=Below w.heap.size w w'
theorem Ext.refl (w:World):Ext w w:=Below.refl _ _
theorem Ext.trans {a b c:World} (h:Ext a b) (k:Ext b c):Ext a c:=Below.trans h (Below.mono k h.size)
theorem Ext.alloc (w:World) (o:Obj):Ext w (w.alloc o):=Below.alloc (Below.refl _ _) (Nat.le_refl _) o
theorem Ext.drew {a w:World} (h:Ext a w):Ext a w.drew:=Below.drew h
theorem Ext.le {w w':World} (h:Ext w w'):w.heap.size≤w'.heap.size:=h.size
theorem Ext.cell {w w':World} (h:Ext w w') {a:Addr} {v:Value} (hc:w.cell? a=some v):w'.cell? a=some v:=by
 rw[Below.cell h (World.block_lt_of_cell? w a hc)];exact hc
theorem Ext.row {w w':World} (h:Ext w w') {b:Nat} {x:Obj} (hc:w.heap[b]? = some x):w'.heap[b]? = some x :=
 (h.block b (Array.getElem?_eq_some_iff.1 hc).1).trans hc
theorem Ext.set {a w:World} (h:Ext a w) {p:Addr} (hp:a.heap.size≤p.block) (v:Value):Ext a (w.setCell p v):=Below.setCell h hp v
abbrev tokV (k:Int) (t:ByteArray) (n:Int) (o:Int):Value:=.agg #[.int .i64 k,.string t,.int .i64 n,.int .i64 o]
theorem cell_box (w:World) (cs:Array Value) (t:TypeId) (i:Nat) {v:Value} (hi:cs[i]? = some v):(w.alloc (.cells cs t)).cell? ⟨w.heap.size,i,none⟩=some v:=by
 rw[cell_of_row _ _ i cs t (0,0) (Go.heap_alloc_new w _)];exact hi
def nameT (s:ByteArray) (o:Nat):Option (Int × ByteArray × Int × Nat) :=
 if 16 < run nm ((L s).drop o) then none else some (if wordL (((L s).drop o).take (run nm ((L s).drop o))) then 2 else 1,s.extract o (o+run nm ((L s).drop o)),0,o+run nm ((L s).drop o))
def opT (s:ByteArray) (o:Nat):Option (Int × ByteArray × Int × Nat) :=
 if opL ((L s).drop o)=0 then none else some (6,s.extract o (o+opL ((L s).drop o)),0,o+opL ((L s).drop o))
theorem opL_le (l:List UInt8):opL l≤l.length:=by
 have h2:∀ t:List UInt8,o2 t=true→t.length=2:=by
  intro t h;simp only[o2,Bool.or_eq_true,beq_iff_eq] at h;rcases h with((((h | h) | h) | h) | h) | h <;> rw[h] <;> rfl
 have h1:∀ t:List UInt8,o1 t=true→t.length=1:=by
  intro t h;simp only[o1,Bool.or_eq_true,beq_iff_eq] at h;rcases h with(((((((((((((((h | h) | h) | h) | h) | h) | h) | h) | h) | h) | h) | h) | h) | h) | h) | h) | h <;> rw[h] <;> rfl
 unfold opL
 split
 ·rename_i h
  have:=h2 _ h;rw[List.length_take] at this;omega
 ·split
  ·rename_i h
   have:=h1 _ h;rw[List.length_take] at this;omega
  ·exact Nat.zero_le _
theorem tail_size (s:ByteArray) (o:Nat):(s.extract o s.size).size=s.size - o:=by rw[ByteArray.size_extract,Nat.min_self]
theorem tail_L (s:ByteArray) (o:Nat):L (s.extract o s.size)=(L s).drop o:=by
 rw[L_extract];exact List.take_of_length_le (by rw[List.length_drop,L_len];exact Nat.le_refl _)
end
section
open Go.RowKit
def nd (s:ByteArray) (o:Nat):Nat:=run dg ((L s).drop o)
def nv (s:ByteArray) (o:Nat):Nat:=dv 0 (((L s).drop o).take (nd s o))
def isI (s:ByteArray) (k:Nat):Bool:=(L s)[k]? == some 105
def nmAt (s:ByteArray) (k:Nat):Bool:=((L s)[k]?.map nm).getD false
def numT (s:ByteArray) (o:Nat):Option (Int × ByteArray × Int × Nat) :=
 if 9223372036854775807 < nv s o then none
 else if isI s (o+nd s o) then (if nmAt s (o+nd s o+1) then none else some (4,⟨#[]⟩,nv s o,o+nd s o+1))
 else (if nmAt s (o+nd s o) then none else some (3,⟨#[]⟩,nv s o,o+nd s o))
theorem isI_end (s:ByteArray) (k:Nat) (h:s.size≤k):isI s k=false:=by
 unfold isI;rw[List.getElem?_eq_none (by rw[L_len];exact h)];rfl
theorem nmAt_end (s:ByteArray) (k:Nat) (h:s.size≤k):nmAt s k=false:=by
 unfold nmAt;rw[List.getElem?_eq_none (by rw[L_len];exact h)];rfl
theorem nmAt_at (s:ByteArray) (k:Nat) (h:k < s.size):nmAt s k=nm s[k]:=by
 unfold nmAt;rw[L_get s k h];rfl
theorem isI_at (s:ByteArray) (k:Nat) (h:k < s.size):isI s k=((s[k].toNat:Int) == 105):=by
 unfold isI;rw[L_get s k h,Bool.eq_iff_iff];simp only[beq_iff_eq,Option.some.injEq];refine⟨fun e=>by rw[e];rfl,fun e => ?_⟩;apply UInt8.toNat.inj;show _=105;omega
theorem nd_le (s:ByteArray) (o:Nat):nd s o≤s.size - o:=by
 have:=run_le dg ((L s).drop o);rw[List.length_drop,L_len] at this;exact this
theorem num_digits (s:ByteArray) (o:Nat) (ho:o < s.size) (hd:dg s[o]=true):1≤nd s o ∧
  Lib.parseIntB 64 (s.extract o (o+nd s o)).data.toList=if nv s o≤9223372036854775807 then .ok (nv s o:Int) else .range:=by
 have h1:1≤nd s o:=by unfold nd;rw[L_drop s o ho];exact run_pos hd
 refine⟨h1,?_⟩;show Lib.parseIntB 64 (L (s.extract o (o+nd s o)))=_;rw[L_extract,Nat.add_sub_cancel_left];refine parse_digits _ ?_ (run_take _);intro h;have hl:=congrArg List.length h;rw[List.length_take,List.length_drop,L_len] at hl;simp at hl;omega
end
end Go.Proofs.YtjnpehohialmbaaGreat
