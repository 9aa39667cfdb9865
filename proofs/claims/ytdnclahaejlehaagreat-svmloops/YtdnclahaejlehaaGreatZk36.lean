/- Plain facts on small values: what a text,an int,and a list of such values are taken for,how great they are. · The ops of two ints. · What the document fixes of ops: the law's own test of the two examples. · The machine with a stack,as plain functions: of ops of two only those of numbers. -/
import Derived.Test.YtdnclahaejlehaaGreatZk35
import Derived.Deep.OwnRows
import Derived.Lib.AppendZeros
import Derived.Test.YtdnclahaejlehaaGreatZk27
import Derived.Test.YtdnclahaejlehaaGreatZk31
set_option linter.unusedSimpArgs false
set_option maxRecDepth 10000
set_option linter.unusedVariables false
set_option maxHeartbeats 4000000
namespace Go.Proofs.YtdnclahaejlehaaGreat
open Go.RowKit
namespace V
def it (n:Int):PV:=.mk 1 n 0 0 ⟨#[]⟩ []
theorem ord00:FloatKind.f64.format.order 0 0=some Ordering.eq:=by kernel_rfl
theorem empty_list:({ data:=#[] }:ByteArray).toList = []:=by simp[ByteArray.toList,ByteArray.toList.loop,ByteArray.size]
theorem wfv_it (n:Int):wfv (it n)=true:=by simp[it,wfv,wfvL,unused,ord00,empty_list]
theorem sz_it (n:Int) (d:Nat):sz (it n) d=1:=by rw[it,sz,if_neg (by decide),if_neg (by decide)]
theorem okv_it (n:Int):okv (it n)=true:=by rw[okv,wfv_it,sz_it];rfl
end V
namespace V
theorem rep_it (w:World) (F:Nat→Prop) (n:Int) (h1:-9223372036854775808≤n) (h2:n≤9223372036854775807) (a:Option Addr) (c:Nat):Rep w F (it n) (.agg #[.int .i64 1,.int .i64 n,.complex .f64 0 0,.string ⟨#[]⟩,.slice a 0 c]):=by
 rw[it,Rep];exact⟨a,c,rfl,⟨by decide,by decide,h1,h2,by decide,by decide,by decide,by decide,Nat.zero_le _⟩,by simp[RepL]⟩
theorem wrap_lo (n:Int):-9223372036854775808≤wrap64 n:=by unfold wrap64;omega
theorem wrap_hi (n:Int):wrap64 n≤9223372036854775807:=by unfold wrap64;omega
theorem rep_wrap (w:World) (F:Nat→Prop) (n:Int):Rep w F (it (wrap64 n)) (.agg #[.int .i64 1,.int .i64 (wrap64 n),.complex .f64 0 0,.string ⟨#[]⟩,.slice none 0 0]):=rep_it w F _ (wrap_lo n) (wrap_hi n) none 0
theorem add_ints (n n':Int) (re im re' im':Nat) (s s':ByteArray) (a a':Option Addr) (l c l' c':Nat) (w:World) :
  Ans 130 #[.agg #[.int .i64 1,.int .i64 n,.complex .f64 re im,.string s,.slice a l c],.agg #[.int .i64 1,.int .i64 n',.complex .f64 re' im',.string s',.slice a' l' c']] w (it (wrap64 (n+n'))) 0:=by
 have hb:=fun W=>both_any 1 1 n 1 n' re im re' im' s s' a a' l c l' c' W;simp only[decide_true,Bool.and_self] at hb;have B:=zh hb;clear hb;unfold Ans
 go_enter Tryz.func130,Tryz.ntmps130
 go_wp2_with (first
  | (go_at_call 156;refine Calls.mono (zu B _) ?_;rintro e w1 ⟨rfl,hw1⟩;have FZ:=(Five.new _ _ _ _ _ _ _ _ _ _).on hw1;have y1:=(Ext.alloc _ _).trans hw1;have FB:=(Five.new _ _ _ _ _ _ _ _ _ _).on y1;have x1:=(Ext.alloc _ _).trans y1;have FA:=(Five.new _ _ _ _ _ _ _ _ _ _).on x1;simp only[heap_alloc_size] at FZ FB;have p0:=FA.c0;have p1:=FA.c1;have p2:=FA.c2;have p3:=FA.c3;have p4:=FA.c4;have q0:=FB.c0;have q1:=FB.c1;have q2:=FB.c2;have q3:=FB.c3;have q4:=FB.c4;have X0:=zh ((Ext.alloc _ _).trans x1);have Z:=zh FZ;clear hw1 x1 y1 FA FB FZ)
  | (go_at_call 120;refine Calls.mono (int_any _ _) ?_;rintro e w2 ⟨rfl,hw2⟩;have fZ:=(zu Z).on hw2;have z0:=fZ.c0;have z1:=fZ.c1;have z2:=fZ.c2;have z3:=fZ.c3;have z4:=fZ.c4;have zf:=fZ.fz;clear fZ;have W2:=zh hw2;clear hw2))
 exact bodyPost_ret (v:=.tuple #[.agg #[.int .i64 1,.int .i64 (wrap64 (n+n')),.complex .f64 0 0,.string ⟨#[]⟩,.slice none 0 0],.int .i64 0]) (by simp[results,Tryz.results130,go_sem,z0,z1,z2,z3,z4]) rfl (ans5 0 (w.heap.size+1+1) (zu X0) (by omega) (World.block_lt_of_cell? _ _ (zu Z).c0) (zu W2) (rep_wrap _ _ _))
theorem sub_ints (n n':Int) (re im re' im':Nat) (s s':ByteArray) (a a':Option Addr) (l c l' c':Nat) (w:World) :
  Ans 131 #[.agg #[.int .i64 1,.int .i64 n,.complex .f64 re im,.string s,.slice a l c],.agg #[.int .i64 1,.int .i64 n',.complex .f64 re' im',.string s',.slice a' l' c']] w (it (wrap64 (n - n'))) 0:=by
 have hb:=fun W=>both_any 1 1 n 1 n' re im re' im' s s' a a' l c l' c' W;simp only[decide_true,Bool.and_self] at hb;have B:=zh hb;clear hb;unfold Ans
 go_enter Tryz.func131,Tryz.ntmps131
 go_wp2_with (first
  | (go_at_call 156;refine Calls.mono (zu B _) ?_;rintro e w1 ⟨rfl,hw1⟩;have FZ:=(Five.new _ _ _ _ _ _ _ _ _ _).on hw1;have y1:=(Ext.alloc _ _).trans hw1;have FB:=(Five.new _ _ _ _ _ _ _ _ _ _).on y1;have x1:=(Ext.alloc _ _).trans y1;have FA:=(Five.new _ _ _ _ _ _ _ _ _ _).on x1;simp only[heap_alloc_size] at FZ FB;have p0:=FA.c0;have p1:=FA.c1;have p2:=FA.c2;have p3:=FA.c3;have p4:=FA.c4;have q0:=FB.c0;have q1:=FB.c1;have q2:=FB.c2;have q3:=FB.c3;have q4:=FB.c4;have X0:=zh ((Ext.alloc _ _).trans x1);have Z:=zh FZ;clear hw1 x1 y1 FA FB FZ)
  | (go_at_call 120;refine Calls.mono (int_any _ _) ?_;rintro e w2 ⟨rfl,hw2⟩;have fZ:=(zu Z).on hw2;have z0:=fZ.c0;have z1:=fZ.c1;have z2:=fZ.c2;have z3:=fZ.c3;have z4:=fZ.c4;have zf:=fZ.fz;clear fZ;have W2:=zh hw2;clear hw2))
 exact bodyPost_ret (v:=.tuple #[.agg #[.int .i64 1,.int .i64 (wrap64 (n - n')),.complex .f64 0 0,.string ⟨#[]⟩,.slice none 0 0],.int .i64 0]) (by simp[results,Tryz.results131,go_sem,z0,z1,z2,z3,z4]) rfl (ans5 0 (w.heap.size+1+1) (zu X0) (by omega) (World.block_lt_of_cell? _ _ (zu Z).c0) (zu W2) (rep_wrap _ _ _))
theorem cmpnan_any (n:Int) (w:World):Calls Tryz.prog 192 #[.int .i64 n] w fun e w'=>e = .returned (.bool false)∧w' = w:=by
 go_enter Tryz.func192,Tryz.ntmps192
 go_wp2_with fail
 go_ret;exact⟨rfl,rfl⟩
theorem compare_any (n n':Int) (w:World):Calls Tryz.prog 186 #[.int .i64 n,.int .i64 n'] w fun e w'=>e = .returned (.int .i64 (if n < n' then -1 else if n' < n then 1 else 0))∧w' = w:=by
 rcases (show n < n'∨(n' < n∧¬ n < n')∨(¬ n < n'∧¬ n' < n) by omega) with h | ⟨h,h2⟩ | ⟨h2,h⟩
 all_goals
  go_enter Tryz.func186,Tryz.ntmps186
  go_wp2_with (go_at_call 192;refine Calls.mono (cmpnan_any _ _) ?_;rintro e w3 ⟨rfl,rfl⟩)
  go_ret;exact⟨by simp[*],rfl⟩
theorem less_any (n:Int) (w:World):Calls Tryz.prog 168 #[.int .i64 n] w fun e w'=>e = .returned (.bool (decide (n < 0)))∧w' = w:=by
 go_enter Tryz.func168,Tryz.ntmps168
 go_wp2_with fail
 go_ret;exact⟨rfl,rfl⟩
theorem ordered_ints (n n':Int) (re im re' im':Nat) (s s':ByteArray) (a a':Option Addr) (l c l' c':Nat) (w:World) (b:Bool) (hbl:decide (n < n')=b) :
  Ans 167 #[.agg #[.int .i64 1,.int .i64 n,.complex .f64 re im,.string s,.slice a l c],.agg #[.int .i64 1,.int .i64 n',.complex .f64 re' im',.string s',.slice a' l' c'],fnV 168] w (it (if b then 1 else 0)) 0:=by
 have hb:=fun W=>both_any 1 1 n 1 n' re im re' im' s s' a a' l c l' c' W;simp only[decide_true,Bool.and_self] at hb;have B:=zh hb;clear hb;unfold Ans;obtain⟨d,hd⟩:∃ d:Int,d=if n < n' then -1 else if n' < n then 1 else 0:=⟨_,rfl⟩
 have he:decide (d < 0)=b:=by
  rw[hd,← hbl,decide_eq_decide]
  split
  ·omega
  ·split <;> omega
 have CM:=zh (fun W=>hd ▸ compare_any n n' W);have HE:=zh (fun W=>he ▸ less_any d W);clear hd he hbl;cases b
 all_goals
  go_enter Tryz.func167,Tryz.ntmps167
  go_wp2_with (first
  | (go_at_call 156;refine Calls.mono (zu B _) ?_;rintro e w1 ⟨rfl,hw1⟩;have FZ:=(Five.new _ _ _ _ _ _ _ _ _ _).on hw1;have y1:=(Ext.alloc _ _).trans hw1;have FB:=(Five.new _ _ _ _ _ _ _ _ _ _).on y1;have x1:=(Ext.alloc _ _).trans y1;have FA:=(Five.new _ _ _ _ _ _ _ _ _ _).on x1;simp only[heap_alloc_size] at FZ FB;have p0:=FA.c0;have p1:=FA.c1;have p2:=FA.c2;have p3:=FA.c3;have p4:=FA.c4;have q0:=FB.c0;have q1:=FB.c1;have q2:=FB.c2;have q3:=FB.c3;have q4:=FB.c4;have X0:=zh ((Ext.alloc _ _).trans x1);have Z:=zh FZ;clear hw1 x1 y1 FA FB FZ)
  | (go_at_call 186;refine Calls.mono (zu CM _) ?_;rintro e w3 ⟨rfl,rfl⟩)
  | (go_at_call 168;refine Calls.mono (zu HE _) ?_;rintro e w3 ⟨rfl,rfl⟩)
  | (go_at_call 165;refine Calls.mono (told_any _ _) ?_;rintro e w2 ⟨rfl,hw2⟩;have fZ:=(zu Z).on hw2;have z0:=fZ.c0;have z1:=fZ.c1;have z2:=fZ.c2;have z3:=fZ.c3;have z4:=fZ.c4;have zf:=fZ.fz;clear fZ;have W2:=zh hw2;clear hw2))
 ·exact bodyPost_ret (v:=.tuple #[.agg #[.int .i64 1,.int .i64 0,.complex .f64 0 0,.string ⟨#[]⟩,.slice none 0 0],.int .i64 0]) (by simp[results,Tryz.results167,go_sem,z0,z1,z2,z3,z4]) rfl (ans5 0 (w.heap.size+1+1) (zu X0) (by omega) (World.block_lt_of_cell? _ _ (zu Z).c0) (zu W2) (rep_it _ _ _ (by decide) (by decide) _ _))
 ·exact bodyPost_ret (v:=.tuple #[.agg #[.int .i64 1,.int .i64 1,.complex .f64 0 0,.string ⟨#[]⟩,.slice none 0 0],.int .i64 0]) (by simp[results,Tryz.results167,go_sem,z0,z1,z2,z3,z4]) rfl (ans5 0 (w.heap.size+1+1) (zu X0) (by omega) (World.block_lt_of_cell? _ _ (zu Z).c0) (zu W2) (rep_it _ _ _ (by decide) (by decide) _ _))
theorem below_ints (n n':Int) (re im re' im':Nat) (s s':ByteArray) (a a':Option Addr) (l c l' c':Nat) (w:World) (b:Bool) (hbl:decide (n < n')=b) :
  Ans 137 #[.agg #[.int .i64 1,.int .i64 n,.complex .f64 re im,.string s,.slice a l c],.agg #[.int .i64 1,.int .i64 n',.complex .f64 re' im',.string s',.slice a' l' c']] w (it (if b then 1 else 0)) 0:=by
 have hb:=fun W=>ordered_ints n n' re im re' im' s s' a a' l c l' c' W b hbl;unfold Ans at hb ⊢;generalize (if b=true then (1:Int) else 0)=t at hb ⊢
 have B:=zh hb;clear hb hbl
 go_enter Tryz.func137,Tryz.ntmps137
 go_wp2_with (go_at_call 167;refine Calls.mono (zu B _) ?_;rintro e w2 ⟨r,rfl,hr,hw2⟩;rw[it,Rep] at hr;obtain⟨ay,cy,rfl,hby,hly⟩:=hr;have fZ:=(Five.new _ _ _ _ _ _ _ _ _ _).on hw2;simp only[heap_alloc_size] at fZ;have z0:=fZ.c0;have z1:=fZ.c1;have z2:=fZ.c2;have z3:=fZ.c3;have z4:=fZ.c4;have zf:=fZ.fz;clear fZ;have BY:=zh hby;clear hby hly;have W2:=zh hw2;clear hw2)
 exact bodyPost_ret (v:=.tuple #[.agg #[.int .i64 1,.int .i64 t,.complex .f64 0 0,.string ⟨#[]⟩,.slice ay 0 cy],.int .i64 0]) (by simp[results,Tryz.results137,go_sem,z0,z1,z2,z3,z4]) rfl (ans5 0 (w.heap.size+1+1) (((Ext.alloc _ _).trans (Ext.alloc _ _)).trans (Ext.alloc _ _)) (by omega) (by simp) (zu W2) (by rw[it,Rep];exact⟨ay,cy,rfl,zu BY,by simp[RepL]⟩))
end V
namespace V
theorem bin_add (n n':Int) (a a':Option Addr) (c c':Nat) (w:World) (h1:-9223372036854775808≤n) (h2:n≤9223372036854775807) (h3:-9223372036854775808≤n') (h4:n'≤9223372036854775807) :
  Ans 97 #[.int .i64 1,.agg #[.int .i64 1,.int .i64 n,.complex .f64 0 0,.string ⟨#[]⟩,.slice a 0 c],.agg #[.int .i64 1,.int .i64 n',.complex .f64 0 0,.string ⟨#[]⟩,.slice a' 0 c']] w (it (wrap64 (n+n'))) 0:=by
 refine binary_any 1 130 (by decide) (by decide) (fun W=>by kernel_rfl) (fun v u W=>by kernel_rfl) (it n) (it n') _ _ w (rep_it _ _ _ h1 h2 _ _) (rep_it _ _ _ h3 h4 _ _) _ _ fun W _ => ?_;rw[okv_it,okv_it,if_pos rfl,if_pos rfl];exact add_ints n n' 0 0 0 0 ⟨#[]⟩ ⟨#[]⟩ a a' 0 c 0 c' W
theorem bin_sub (n n':Int) (a a':Option Addr) (c c':Nat) (w:World) (h1:-9223372036854775808≤n) (h2:n≤9223372036854775807) (h3:-9223372036854775808≤n') (h4:n'≤9223372036854775807) :
  Ans 97 #[.int .i64 2,.agg #[.int .i64 1,.int .i64 n,.complex .f64 0 0,.string ⟨#[]⟩,.slice a 0 c],.agg #[.int .i64 1,.int .i64 n',.complex .f64 0 0,.string ⟨#[]⟩,.slice a' 0 c']] w (it (wrap64 (n - n'))) 0:=by
 refine binary_any 2 131 (by decide) (by decide) (fun W=>by kernel_rfl) (fun v u W=>by kernel_rfl) (it n) (it n') _ _ w (rep_it _ _ _ h1 h2 _ _) (rep_it _ _ _ h3 h4 _ _) _ _ fun W _ => ?_;rw[okv_it,okv_it,if_pos rfl,if_pos rfl];exact sub_ints n n' 0 0 0 0 ⟨#[]⟩ ⟨#[]⟩ a a' 0 c 0 c' W
theorem bin_lt (n n':Int) (a a':Option Addr) (c c':Nat) (w:World) (h1:-9223372036854775808≤n) (h2:n≤9223372036854775807) (h3:-9223372036854775808≤n') (h4:n'≤9223372036854775807) (b:Bool) (hb:decide (n < n')=b) :
  Ans 97 #[.int .i64 8,.agg #[.int .i64 1,.int .i64 n,.complex .f64 0 0,.string ⟨#[]⟩,.slice a 0 c],.agg #[.int .i64 1,.int .i64 n',.complex .f64 0 0,.string ⟨#[]⟩,.slice a' 0 c']] w (it (if b then 1 else 0)) 0:=by
 refine binary_any 8 137 (by decide) (by decide) (fun W=>by kernel_rfl) (fun v u W=>by kernel_rfl) (it n) (it n') _ _ w (rep_it _ _ _ h1 h2 _ _) (rep_it _ _ _ h3 h4 _ _) _ _ fun W _ => ?_;rw[okv_it,okv_it,if_pos rfl,if_pos rfl];exact below_ints n n' 0 0 0 0 ⟨#[]⟩ ⟨#[]⟩ a a' 0 c 0 c' W b hb
end V
namespace V
structure SFr where
 fn:Nat
 pc:Nat
 vs:List PV
structure SEv where
 k:Int
 n:Int
 v:PV
structure SMc where
 fr:List SFr
 fu:Int
 ev:List SEv
def isIt (p:PV):Option Int:=if p.k=1∧p.re=0∧p.im=0∧p.s=⟨#[]⟩∧p.l.length=0 then some p.n else none
theorem isIt_some {p:PV} {n:Int} (h:isIt p=some n):p=it n:=by
 unfold isIt at h
 split at h
 ·rename_i hp
  injection h with h;obtain⟨k,m,re,im,s,l⟩:=p;obtain⟨h1,h2,h3,h4,h5⟩:=hp;simp only at h h1 h2 h3 h4 h5;subst h h1 h2 h3 h4;rw[List.length_eq_zero_iff.1 h5];rfl
 ·cases h
def sBin (o:Int) (p q:PV):Option PV:=match isIt p with
 | none=>none
 | some n=>match isIt q with
  | none=>none
  | some m=>if o=1 then some (it (wrap64 (n+m))) else if o=2 then some (it (wrap64 (n - m))) else if o=6 then some (it (if n=m then 1 else 0)) else if o=8 then some (it (if n < m then 1 else 0)) else none
def sPop (vs:List PV):Option (List PV × PV):=match vs.getLast? with
 | none=>none
 | some v=>some (vs.dropLast,v)
theorem sPop_some {vs us:List PV} {v:PV} (h:sPop vs=some (us,v)):vs=us++[v]:=by
 unfold sPop at h;cases hv:vs.getLast? with
 | none=>rw[hv] at h;cases h
 | some u =>
  rw[hv] at h;injection h with h;injection h with h1 h2;subst h1 h2;have hne:vs≠[]:=fun e=>by rw[e] at hv;cases hv
  rw[List.getLast?_eq_some_getLast hne] at hv;injection hv with hv;rw[← hv];exact(List.dropLast_concat_getLast hne).symm
def SMc.tell (s:SMc) (e:SEv):SMc × Int:=if s.fu < 1 then (s,6) else (⟨s.fr,s.fu - 1,s.ev++[e]⟩,0)
def sLen:List SFr→Nat
 | [] => 0
 | c :: r=>sLen r+c.vs.length
def sIns (fns:List KF) (f:KF) (i:KI) (c:SFr) (r:List SFr) (s:SMc):Option (SMc × Int) :=
 if i.op=1 then (match f.cs[i.a.toNat]? with
  | none=>none
  | some v=>if 0≤i.a then some (⟨⟨c.fn,c.pc+1,c.vs++[v]⟩ :: r,s.fu,s.ev⟩,0) else none)
 else if i.op=2 then (match c.vs[i.a.toNat]? with
  | none=>none
  | some v=>if 0≤i.a then some (⟨⟨c.fn,c.pc+1,c.vs++[v]⟩ :: r,s.fu,s.ev⟩,0) else none)
 else if i.op=3 then (match sPop c.vs with
  | none=>none
  | some (us,v)=>if 0≤i.a∧i.a.toNat < us.length then some (⟨⟨c.fn,c.pc+1,us.set i.a.toNat v⟩ :: r,s.fu,s.ev⟩,0) else none)
 else if i.op=4 then (match sPop c.vs with
  | none=>none
  | some (us,v)=>some (⟨⟨c.fn,c.pc+1,us⟩ :: r,s.fu,s.ev⟩,0))
 else if i.op=5 then (match sPop c.vs with
  | none=>none
  | some (us,q)=>match sPop us with
   | none=>none
   | some (ts,p)=>match sBin i.a p q with
    | none=>none
    | some v=>some (⟨⟨c.fn,c.pc+1,ts++[v]⟩ :: r,s.fu,s.ev⟩,0))
 else if i.op=7 then (if 0≤i.a∧i.a≤1000000 then some (⟨⟨c.fn,i.a.toNat,c.vs⟩ :: r,s.fu,s.ev⟩,0) else none)
 else if i.op=8 then (match sPop c.vs with
  | none=>none
  | some (us,v)=>if 0≤i.a∧i.a≤1000000 then some (⟨⟨c.fn,if truev (tk v) then c.pc+1 else i.a.toNat,us⟩ :: r,s.fu,s.ev⟩,0) else none)
 else if i.op=9 then (match fns[i.a.toNat]? with
  | none=>none
  | some h=>if 0≤i.a∧0≤h.ps∧h.ps≤h.lc∧h.lc≤1000∧h.ps.toNat≤c.vs.length then some (⟨⟨i.a.toNat,0,c.vs.drop (c.vs.length - h.ps.toNat)++List.replicate (h.lc - h.ps).toNat nilP⟩ :: ⟨c.fn,c.pc+1,c.vs.take (c.vs.length - h.ps.toNat)⟩ :: r,s.fu,s.ev⟩,0) else none)
 else if i.op=10 then (match sPop c.vs with
  | none=>none
  | some (_,v)=>match r with
   | []=>some (⟨[⟨0,0,[v]⟩],s.fu,s.ev⟩,-1)
   | d :: q=>some (⟨⟨d.fn,d.pc,d.vs++[v]⟩ :: q,s.fu,s.ev⟩,0))
 else if i.op=11 then (match sPop c.vs with
  | none=>none
  | some (us,v)=>some (SMc.tell ⟨⟨c.fn,c.pc+1,us⟩ :: r,s.fu,s.ev⟩ ⟨2,0,cp v⟩))
 else if i.op=12 then some (SMc.tell ⟨⟨c.fn,c.pc+1,c.vs⟩ :: r,s.fu,s.ev⟩ ⟨1,i.a,nilP⟩)
 else none
def sStep (fns:List KF) (s:SMc):Option (SMc × Int):=match s.fr with
 | []=>none
 | c :: r=>if 1000000 < sLen s.fr∨1000000 < s.fr.length∨1000000 < s.ev.length then none else match fns[c.fn]? with
  | none=>none
  | some f=>match f.code[c.pc]? with
   | none=>none
   | some i=>sIns fns f i c r s
end V
end Go.Proofs.YtdnclahaejlehaaGreat
