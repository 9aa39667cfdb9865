/- The document's answer for words: its ops and its texts between quotes. -/
import Derived.Test.YtjnpehohialmbaaGreatZs17
set_option linter.unusedSimpArgs false
set_option linter.unusedVariables false
set_option maxRecDepth 10000
set_option maxHeartbeats 8000000
namespace Go.Proofs.YtjnpehohialmbaaGreat
open Go.RowKit
section
theorem key_byte (c d:UInt8):([c] == [d])=((c.toNat:Int) == (d.toNat:Int)):=by
 rw[Bool.eq_iff_iff,beq_iff_eq,beq_iff_eq];constructor
 ·intro h;injection h with h;rw[h]
 ·intro h
  have:c=d:=UInt8.toNat.inj (by omega);rw[this]
theorem o1_byte (c:UInt8):o1 [c]=(((c.toNat:Int) == 40) || ((c.toNat:Int) == 41) || ((c.toNat:Int) == 123) || ((c.toNat:Int) == 125) || ((c.toNat:Int) == 91) || ((c.toNat:Int) == 93) || ((c.toNat:Int) == 44) || ((c.toNat:Int) == 59) || ((c.toNat:Int) == 61) || ((c.toNat:Int) == 43) || ((c.toNat:Int) == 45) || ((c.toNat:Int) == 42) || ((c.toNat:Int) == 47) || ((c.toNat:Int) == 37) || ((c.toNat:Int) == 60) || ((c.toNat:Int) == 62) || ((c.toNat:Int) == 33)):=by
 simp only[o1,key_byte];rfl
def opS (s:ByteArray):ByteArray:=s.extract 0 (opL (L s))
theorem ret_str {a b:ByteArray} (h:a=b):Ending.returned (.string a) = .returned (.string b):=by rw[h]
theorem ext00 (s:ByteArray):s.extract 0 0=⟨#[]⟩:=by
 apply L_inj;rw[L_extract];rfl
def o1b (c:UInt8):Bool:=((c.toNat:Int) == 40) || ((c.toNat:Int) == 41) || ((c.toNat:Int) == 123) || ((c.toNat:Int) == 125) || ((c.toNat:Int) == 91) || ((c.toNat:Int) == 93) || ((c.toNat:Int) == 44) || ((c.toNat:Int) == 59) || ((c.toNat:Int) == 61) || ((c.toNat:Int) == 43) || ((c.toNat:Int) == 45) || ((c.toNat:Int) == 42) || ((c.toNat:Int) == 47) || ((c.toNat:Int) == 37) || ((c.toNat:Int) == 60) || ((c.toNat:Int) == 62) || ((c.toNat:Int) == 33)
theorem rop_two (s:ByteArray) (w:World) (h1:2≤s.size) (hs:s.size≤140737488355328) :
  Calls Tryz.prog 32 #[.string s] w fun e w'=>e = .returned (.string (opS s))∧w' = w:=by
 have hone:(L s).take 1 = [s[0]]:=by
  have:=L_drop s 0 (by omega);rw[List.drop_zero] at this;rw[this];rfl
 have ht2:(L s).take 2=(s.extract 0 2).toList:=by rw[toL,L_extract,List.drop_zero]
 have V2:Hd (o2 (s.extract 0 2).toList=true→s.extract 0 2=opS s):=by
  intro h;unfold opS opL;rw[ht2];rw[if_pos h]
 have V1:Hd (o2 (s.extract 0 2).toList=false→o1b s[0]=true→s.extract 0 1=opS s):=by
  intro h h1;unfold opS opL;rw[ht2];rw[if_neg (by rw[h];decide),hone,o1_byte];rw[if_pos (by exact h1)]
 have V0:Hd (o2 (s.extract 0 2).toList=false→o1b s[0]=false→(⟨#[]⟩:ByteArray)=opS s):=by
  intro h h1;unfold opS opL;rw[ht2];rw[if_neg (by rw[h];decide),hone,o1_byte];rw[if_neg (by show ¬ o1b s[0]=true;rw[h1];decide)];exact(ext00 s).symm
 clear hone ht2;rcases Bool.eq_false_or_eq_true ((s.extract 0 2).toList == [61,61]) with p0 | p0
 ·(go_enter Tryz.func32,Tryz.ntmps32;go_wp2;go_ret;exact⟨ret_str ((zu V2) (by simp_all [o2])),rfl⟩)
 rcases Bool.eq_false_or_eq_true ((s.extract 0 2).toList == [33,61]) with p1 | p1
 ·(go_enter Tryz.func32,Tryz.ntmps32;go_wp2;go_ret;exact⟨ret_str ((zu V2) (by simp_all [o2])),rfl⟩)
 rcases Bool.eq_false_or_eq_true ((s.extract 0 2).toList == [60,61]) with p2 | p2
 ·(go_enter Tryz.func32,Tryz.ntmps32;go_wp2;go_ret;exact⟨ret_str ((zu V2) (by simp_all [o2])),rfl⟩)
 rcases Bool.eq_false_or_eq_true ((s.extract 0 2).toList == [62,61]) with p3 | p3
 ·(go_enter Tryz.func32,Tryz.ntmps32;go_wp2;go_ret;exact⟨ret_str ((zu V2) (by simp_all [o2])),rfl⟩)
 rcases Bool.eq_false_or_eq_true ((s.extract 0 2).toList == [38,38]) with p4 | p4
 ·(go_enter Tryz.func32,Tryz.ntmps32;go_wp2;go_ret;exact⟨ret_str ((zu V2) (by simp_all [o2])),rfl⟩)
 rcases Bool.eq_false_or_eq_true ((s.extract 0 2).toList == [124,124]) with p5 | p5
 ·(go_enter Tryz.func32,Tryz.ntmps32;go_wp2;go_ret;exact⟨ret_str ((zu V2) (by simp_all [o2])),rfl⟩)
 rcases Bool.eq_false_or_eq_true ((s[0].toNat:Int) == 40) with q0 | q0
 ·(go_enter Tryz.func32,Tryz.ntmps32;go_wp2;go_ret;exact⟨ret_str ((zu V1) (by simp_all [o2]) (by simp_all [o1b])),rfl⟩)
 rcases Bool.eq_false_or_eq_true ((s[0].toNat:Int) == 41) with q1 | q1
 ·(go_enter Tryz.func32,Tryz.ntmps32;go_wp2;go_ret;exact⟨ret_str ((zu V1) (by simp_all [o2]) (by simp_all [o1b])),rfl⟩)
 rcases Bool.eq_false_or_eq_true ((s[0].toNat:Int) == 123) with q2 | q2
 ·(go_enter Tryz.func32,Tryz.ntmps32;go_wp2;go_ret;exact⟨ret_str ((zu V1) (by simp_all [o2]) (by simp_all [o1b])),rfl⟩)
 rcases Bool.eq_false_or_eq_true ((s[0].toNat:Int) == 125) with q3 | q3
 ·(go_enter Tryz.func32,Tryz.ntmps32;go_wp2;go_ret;exact⟨ret_str ((zu V1) (by simp_all [o2]) (by simp_all [o1b])),rfl⟩)
 rcases Bool.eq_false_or_eq_true ((s[0].toNat:Int) == 91) with q4 | q4
 ·(go_enter Tryz.func32,Tryz.ntmps32;go_wp2;go_ret;exact⟨ret_str ((zu V1) (by simp_all [o2]) (by simp_all [o1b])),rfl⟩)
 rcases Bool.eq_false_or_eq_true ((s[0].toNat:Int) == 93) with q5 | q5
 ·(go_enter Tryz.func32,Tryz.ntmps32;go_wp2;go_ret;exact⟨ret_str ((zu V1) (by simp_all [o2]) (by simp_all [o1b])),rfl⟩)
 rcases Bool.eq_false_or_eq_true ((s[0].toNat:Int) == 44) with q6 | q6
 ·(go_enter Tryz.func32,Tryz.ntmps32;go_wp2;go_ret;exact⟨ret_str ((zu V1) (by simp_all [o2]) (by simp_all [o1b])),rfl⟩)
 rcases Bool.eq_false_or_eq_true ((s[0].toNat:Int) == 59) with q7 | q7
 ·(go_enter Tryz.func32,Tryz.ntmps32;go_wp2;go_ret;exact⟨ret_str ((zu V1) (by simp_all [o2]) (by simp_all [o1b])),rfl⟩)
 rcases Bool.eq_false_or_eq_true ((s[0].toNat:Int) == 61) with q8 | q8
 ·(go_enter Tryz.func32,Tryz.ntmps32;go_wp2;go_ret;exact⟨ret_str ((zu V1) (by simp_all [o2]) (by simp_all [o1b])),rfl⟩)
 rcases Bool.eq_false_or_eq_true ((s[0].toNat:Int) == 43) with q9 | q9
 ·(go_enter Tryz.func32,Tryz.ntmps32;go_wp2;go_ret;exact⟨ret_str ((zu V1) (by simp_all [o2]) (by simp_all [o1b])),rfl⟩)
 rcases Bool.eq_false_or_eq_true ((s[0].toNat:Int) == 45) with q10 | q10
 ·(go_enter Tryz.func32,Tryz.ntmps32;go_wp2;go_ret;exact⟨ret_str ((zu V1) (by simp_all [o2]) (by simp_all [o1b])),rfl⟩)
 rcases Bool.eq_false_or_eq_true ((s[0].toNat:Int) == 42) with q11 | q11
 ·(go_enter Tryz.func32,Tryz.ntmps32;go_wp2;go_ret;exact⟨ret_str ((zu V1) (by simp_all [o2]) (by simp_all [o1b])),rfl⟩)
 rcases Bool.eq_false_or_eq_true ((s[0].toNat:Int) == 47) with q12 | q12
 ·(go_enter Tryz.func32,Tryz.ntmps32;go_wp2;go_ret;exact⟨ret_str ((zu V1) (by simp_all [o2]) (by simp_all [o1b])),rfl⟩)
 rcases Bool.eq_false_or_eq_true ((s[0].toNat:Int) == 37) with q13 | q13
 ·(go_enter Tryz.func32,Tryz.ntmps32;go_wp2;go_ret;exact⟨ret_str ((zu V1) (by simp_all [o2]) (by simp_all [o1b])),rfl⟩)
 rcases Bool.eq_false_or_eq_true ((s[0].toNat:Int) == 60) with q14 | q14
 ·(go_enter Tryz.func32,Tryz.ntmps32;go_wp2;go_ret;exact⟨ret_str ((zu V1) (by simp_all [o2]) (by simp_all [o1b])),rfl⟩)
 rcases Bool.eq_false_or_eq_true ((s[0].toNat:Int) == 62) with q15 | q15
 ·(go_enter Tryz.func32,Tryz.ntmps32;go_wp2;go_ret;exact⟨ret_str ((zu V1) (by simp_all [o2]) (by simp_all [o1b])),rfl⟩)
 rcases Bool.eq_false_or_eq_true ((s[0].toNat:Int) == 33) with q16 | q16
 ·(go_enter Tryz.func32,Tryz.ntmps32;go_wp2;go_ret;exact⟨ret_str ((zu V1) (by simp_all [o2]) (by simp_all [o1b])),rfl⟩)
 go_enter Tryz.func32,Tryz.ntmps32
 go_wp2
 go_ret;exact⟨ret_str ((zu V0) (by simp_all [o2]) (by simp_all [o1b])),rfl⟩
theorem rop_one (s:ByteArray) (w:World) (h1:s.size=1) :
  Calls Tryz.prog 32 #[.string s] w fun e w'=>e = .returned (.string (opS s))∧w' = w:=by
 have hone:(L s).take 1 = [s[0]]:=by
  have:=L_drop s 0 (by omega);rw[List.drop_zero] at this;rw[this];rfl
 have ht2:(L s).take 2 = [s[0]]:=by
  rw[List.take_of_length_le (by rw[L_len];omega),← hone,List.take_of_length_le (by rw[L_len];omega)]
 have V2:Hd (o2 [s[0]]=true→s.extract 0 2=opS s):=by
  intro h;unfold opS opL;rw[ht2];rw[if_pos h]
 have V1:Hd (o2 [s[0]]=false→o1b s[0]=true→s.extract 0 1=opS s):=by
  intro h h1;unfold opS opL;rw[ht2];rw[if_neg (by rw[h];decide),hone,o1_byte];rw[if_pos (by exact h1)]
 have V0:Hd (o2 [s[0]]=false→o1b s[0]=false→(⟨#[]⟩:ByteArray)=opS s):=by
  intro h h1;unfold opS opL;rw[ht2];rw[if_neg (by rw[h];decide),hone,o1_byte];rw[if_neg (by show ¬ o1b s[0]=true;rw[h1];decide)];exact(ext00 s).symm
 clear hone ht2;rcases Bool.eq_false_or_eq_true ((s[0].toNat:Int) == 40) with q0 | q0
 ·(go_enter Tryz.func32,Tryz.ntmps32;go_wp2;go_ret;exact⟨ret_str ((zu V1) (by simp_all [o2]) (by simp_all [o1b])),rfl⟩)
 rcases Bool.eq_false_or_eq_true ((s[0].toNat:Int) == 41) with q1 | q1
 ·(go_enter Tryz.func32,Tryz.ntmps32;go_wp2;go_ret;exact⟨ret_str ((zu V1) (by simp_all [o2]) (by simp_all [o1b])),rfl⟩)
 rcases Bool.eq_false_or_eq_true ((s[0].toNat:Int) == 123) with q2 | q2
 ·(go_enter Tryz.func32,Tryz.ntmps32;go_wp2;go_ret;exact⟨ret_str ((zu V1) (by simp_all [o2]) (by simp_all [o1b])),rfl⟩)
 rcases Bool.eq_false_or_eq_true ((s[0].toNat:Int) == 125) with q3 | q3
 ·(go_enter Tryz.func32,Tryz.ntmps32;go_wp2;go_ret;exact⟨ret_str ((zu V1) (by simp_all [o2]) (by simp_all [o1b])),rfl⟩)
 rcases Bool.eq_false_or_eq_true ((s[0].toNat:Int) == 91) with q4 | q4
 ·(go_enter Tryz.func32,Tryz.ntmps32;go_wp2;go_ret;exact⟨ret_str ((zu V1) (by simp_all [o2]) (by simp_all [o1b])),rfl⟩)
 rcases Bool.eq_false_or_eq_true ((s[0].toNat:Int) == 93) with q5 | q5
 ·(go_enter Tryz.func32,Tryz.ntmps32;go_wp2;go_ret;exact⟨ret_str ((zu V1) (by simp_all [o2]) (by simp_all [o1b])),rfl⟩)
 rcases Bool.eq_false_or_eq_true ((s[0].toNat:Int) == 44) with q6 | q6
 ·(go_enter Tryz.func32,Tryz.ntmps32;go_wp2;go_ret;exact⟨ret_str ((zu V1) (by simp_all [o2]) (by simp_all [o1b])),rfl⟩)
 rcases Bool.eq_false_or_eq_true ((s[0].toNat:Int) == 59) with q7 | q7
 ·(go_enter Tryz.func32,Tryz.ntmps32;go_wp2;go_ret;exact⟨ret_str ((zu V1) (by simp_all [o2]) (by simp_all [o1b])),rfl⟩)
 rcases Bool.eq_false_or_eq_true ((s[0].toNat:Int) == 61) with q8 | q8
 ·(go_enter Tryz.func32,Tryz.ntmps32;go_wp2;go_ret;exact⟨ret_str ((zu V1) (by simp_all [o2]) (by simp_all [o1b])),rfl⟩)
 rcases Bool.eq_false_or_eq_true ((s[0].toNat:Int) == 43) with q9 | q9
 ·(go_enter Tryz.func32,Tryz.ntmps32;go_wp2;go_ret;exact⟨ret_str ((zu V1) (by simp_all [o2]) (by simp_all [o1b])),rfl⟩)
 rcases Bool.eq_false_or_eq_true ((s[0].toNat:Int) == 45) with q10 | q10
 ·(go_enter Tryz.func32,Tryz.ntmps32;go_wp2;go_ret;exact⟨ret_str ((zu V1) (by simp_all [o2]) (by simp_all [o1b])),rfl⟩)
 rcases Bool.eq_false_or_eq_true ((s[0].toNat:Int) == 42) with q11 | q11
 ·(go_enter Tryz.func32,Tryz.ntmps32;go_wp2;go_ret;exact⟨ret_str ((zu V1) (by simp_all [o2]) (by simp_all [o1b])),rfl⟩)
 rcases Bool.eq_false_or_eq_true ((s[0].toNat:Int) == 47) with q12 | q12
 ·(go_enter Tryz.func32,Tryz.ntmps32;go_wp2;go_ret;exact⟨ret_str ((zu V1) (by simp_all [o2]) (by simp_all [o1b])),rfl⟩)
 rcases Bool.eq_false_or_eq_true ((s[0].toNat:Int) == 37) with q13 | q13
 ·(go_enter Tryz.func32,Tryz.ntmps32;go_wp2;go_ret;exact⟨ret_str ((zu V1) (by simp_all [o2]) (by simp_all [o1b])),rfl⟩)
 rcases Bool.eq_false_or_eq_true ((s[0].toNat:Int) == 60) with q14 | q14
 ·(go_enter Tryz.func32,Tryz.ntmps32;go_wp2;go_ret;exact⟨ret_str ((zu V1) (by simp_all [o2]) (by simp_all [o1b])),rfl⟩)
 rcases Bool.eq_false_or_eq_true ((s[0].toNat:Int) == 62) with q15 | q15
 ·(go_enter Tryz.func32,Tryz.ntmps32;go_wp2;go_ret;exact⟨ret_str ((zu V1) (by simp_all [o2]) (by simp_all [o1b])),rfl⟩)
 rcases Bool.eq_false_or_eq_true ((s[0].toNat:Int) == 33) with q16 | q16
 ·(go_enter Tryz.func32,Tryz.ntmps32;go_wp2;go_ret;exact⟨ret_str ((zu V1) (by simp_all [o2]) (by simp_all [o1b])),rfl⟩)
 go_enter Tryz.func32,Tryz.ntmps32
 go_wp2
 go_ret;exact⟨ret_str ((zu V0) (by simp_all [o2]) (by simp_all [o1b])),rfl⟩
theorem rop_any (s:ByteArray) (w:World) (h1:1≤s.size) (hs:s.size≤140737488355328) :
  Calls Tryz.prog 32 #[.string s] w fun e w'=>e = .returned (.string (opS s))∧w' = w:=by
 by_cases h:s.size=1
 ·exact rop_one s w h
 ·exact rop_two s w (by omega) hs
end
section
structure TP (s:ByteArray) (o k f:Nat) (acc:List UInt8):Prop where
 lo:o+1≤k
 eq:txF (s.size+1) ((L s).drop (o+1))=(txF f ((L s).drop k)).map fun p=>(acc++p.1,(k - (o+1))+p.2)
 fuel:s.size - k < f
 len:acc.length≤k
theorem TP.start (s:ByteArray) (o:Nat):TP s o (o+1) (s.size+1) []:=by
 refine⟨Nat.le_refl _,?_,by omega,Nat.zero_le _⟩;simp
theorem TP.next {s:ByteArray} {o k f:Nat} {acc:List UInt8} (h:TP s o k f acc) (hk:k < s.size) (h10:¬ s[k].toNat=10) (h34:¬ s[k].toNat=34) (b:UInt8) (n:Nat) (hb:sg ((L s).drop k)=(b,n)) (h0:¬ n=0):TP s o (k+n) (f - 1) (acc++[b]):=by
 have hlo:=h.lo;have hf:=h.fuel;refine⟨by omega,?_,by omega,?_⟩
 ·obtain⟨g,rfl⟩:∃ g,f=g+1:=⟨f - 1,by omega⟩
  rw[h.eq,L_drop s k hk,txF,if_neg h10,if_neg h34,← L_drop s k hk,hb,if_neg h0,List.drop_drop,Nat.add_sub_cancel,Option.map_map]
  congr 1
  funext p
  simp only[Function.comp,List.append_assoc,List.singleton_append,Prod.mk.injEq,true_and];omega
 ·rw[List.length_append];have:=h.len;simp;omega
theorem TP.stop {s:ByteArray} {o k f:Nat} {acc:List UInt8} (h:TP s o k f acc) (hk:s.size≤k):txF (s.size+1) ((L s).drop (o+1))=none:=by
 rw[h.eq,L_end s k hk];cases f <;> rfl
theorem TP.bad {s:ByteArray} {o k f:Nat} {acc:List UInt8} (h:TP s o k f acc) (hk:k < s.size) (hb:s[k].toNat=10∨(¬ s[k].toNat=34∧(sg ((L s).drop k)).2=0)):txF (s.size+1) ((L s).drop (o+1))=none:=by
 have hf:=h.fuel;obtain⟨g,rfl⟩:∃ g,f=g+1:=⟨f - 1,by omega⟩;rw[h.eq,L_drop s k hk,txF];by_cases h10:s[k].toNat=10
 ·rw[if_pos h10];rfl
 ·rcases hb with hb | ⟨h34,h0⟩
  ·exact absurd hb h10
  ·rw[L_drop s k hk] at h0
   rw[if_neg h10,if_neg h34,if_pos h0];rfl
theorem TP.good {s:ByteArray} {o k f:Nat} {acc:List UInt8} (h:TP s o k f acc) (hk:k < s.size) (h34:s[k].toNat=34):txF (s.size+1) ((L s).drop (o+1))=some (acc,k - o):=by
 have hf:=h.fuel;have hlo:=h.lo;obtain⟨g,rfl⟩:∃ g,f=g+1:=⟨f - 1,by omega⟩;rw[h.eq,L_drop s k hk,txF,if_neg (by omega),if_pos h34];simp;omega
def rtx (s:ByteArray) (o:Nat):Value :=
 match txF (s.size+1) ((L s).drop (o+1)) with
 | some p => .tuple #[.string ⟨p.1.toArray⟩,.int .i64 ((o+1+p.2:Nat):Int),.bool true]
 | none => .tuple #[.string ⟨#[]⟩,.int .i64 0,.bool false]
theorem rtx_none {s:ByteArray} {o:Nat} (h:txF (s.size+1) ((L s).drop (o+1))=none):rtx s o = .tuple #[.string ⟨#[]⟩,.int .i64 0,.bool false]:=by unfold rtx;rw[h]
theorem rtx_some {s:ByteArray} {o k:Nat} {t:ByteArray} (h:txF (s.size+1) ((L s).drop (o+1))=some (L t,k - o)) (hk:o≤k):rtx s o = .tuple #[.string t,.int .i64 ((k:Int)+1),.bool true]:=by
 unfold rtx;rw[h];show Value.tuple #[.string ⟨(L t).toArray⟩,.int .i64 ((o+1+(k - o):Nat):Int),.bool true]=_;rw[mk_L,show ((o+1+(k - o):Nat):Int)=(k:Int)+1 by omega]
theorem sg_at1 {s:ByteArray} {k:Nat} (hk:k < s.size) (h:s.size≤k+1) (h92:s[k].toNat=92):(sg ((L s).drop k)).2=0:=by
 rw[L_drop s k hk,L_end s (k+1) h];show (sg [_]).2=0;rw[sg,if_pos h92]
theorem sg_at2 {s:ByteArray} {k:Nat} (hk:k < s.size) (h:k+1 < s.size) (h92:s[k].toNat=92):sg ((L s).drop k)=if s[k+1].toNat=34∨s[k+1].toNat=92 then (s[k+1],2) else if s[k+1].toNat=110 then (10,2) else (0,0):=by
 rw[L_drop s k hk,L_drop s (k+1) h];show sg (_ :: _ :: _)=_;rw[sg,if_pos h92]
theorem sg_at0 {s:ByteArray} {k:Nat} (hk:k < s.size) (h92:¬ s[k].toNat=92):sg ((L s).drop k)=(s[k],1):=by
 rw[L_drop s k hk];cases (L s).drop (k+1) with
 | nil=>show sg [_]=_;rw[sg,if_neg h92]
 | cons d r=>rw[sg,if_neg h92]
theorem L_one (s:ByteArray) (k:Nat) (h:k < s.size):L (s.extract k (k+1)) = [s[k]]:=by
 rw[L_extract,L_drop s k h,Nat.add_sub_cancel_left];rfl
theorem ret_val {a b:Value} (h:a=b):Ending.returned a = .returned b:=by rw[h]
theorem rtext_any (s:ByteArray) (o:Nat) (w:World) (ho:o < s.size) (hs:s.size≤4000) :
  Calls Tryz.prog 31 #[.string s,.int .i64 o] w fun e w'=>e = .returned (rtx s o)∧w' = w:=by
 go_enter Tryz.func31,Tryz.ntmps31
 go_wp2
 go_loop [7,8] (fun v i => ∃ (k f:Nat) (t:ByteArray),k≤s.size∧i = .int .i64 k∧v = .string t∧t.size≤4000∧Hd (TP s o k f (L t))) (fun _ i=>s.size - (intOf i).toNat)
 case atStart=>exact⟨o+1,s.size+1,⟨#[]⟩,by omega,by go_num,rfl,by decide,TP.start s o⟩
 case round =>
  obtain⟨k,f,t,hk,rfl,rfl,ht,hI⟩:=hrel;by_cases hlt:k < s.size
  ·by_cases c34:s[k].toNat=34
   ·have b1:((s[k].toNat:Int) == 34)=true:=by simp;omega
    have R:=zh (rtx_some ((zu hI).good hlt c34) (by have:=(zu hI).lo;omega));clear c34
    go_wp2
    go_ret3
    exact⟨ret_val (zu R).symm,rfl⟩
   ·have b1:((s[k].toNat:Int) == 34)=false:=by simp;omega
    by_cases c10:s[k].toNat=10
    ·have b2:((s[k].toNat:Int) == 10)=true:=by simp;omega
     have R:=zh (rtx_none ((zu hI).bad hlt (Or.inl c10)));clear c34 c10
     go_wp2
     go_ret3
     exact⟨ret_val (zu R).symm,rfl⟩
    ·have b2:((s[k].toNat:Int) == 10)=false:=by simp;omega
     by_cases c92:s[k].toNat=92
     ·have b3:((s[k].toNat:Int) == 92)=true:=by simp;omega
      by_cases h1:k+1 < s.size
      ·have e1:((k:Int)+1 == (s.size:Int))=false:=by simp;omega
       have hS:=sg_at2 hlt h1 c92;by_cases d1:s[k+1].toNat=34∨s[k+1].toNat=92
       ·rw[if_pos d1] at hS
        have hN:=zh ((zu hI).next hlt c10 c34 _ _ hS (by decide));have hz:Hd ((t++s.extract (k+1) (k+1+1)).size≤4000∧TP s o (k+2) (f - 1) (L (t++s.extract (k+1) (k+1+1)))):=by
         have:=zu hN;rw[L_append,L_one s (k+1) h1];refine⟨?_,this⟩;have hl:=this.len;rw[List.length_append,L_len] at hl;have hsz:(s.extract (k+1) (k+1+1)).size=1:=by rw[← L_len,L_one s (k+1) h1];rfl
         rw[ByteArray.size_append,hsz];simp at hl;omega
        rcases (show (((s[k+1].toNat:Int) == 34)=true)∨(((s[k+1].toNat:Int) == 34)=false∧((s[k+1].toNat:Int) == 92)=true) by simp;omega) with g1 | ⟨g1,g2⟩
        all_goals
         clear d1 c34 c10 c92 hS hN
         go_wp2
         go_round
         case rel=>exact⟨k+2,_,_,by omega,by go_num,rfl,(zu hz).1,(zu hz).2⟩
         case measure=>simp[intOf];omega
       ·rw[if_neg d1] at hS
        have g1:((s[k+1].toNat:Int) == 34)=false:=by simp;omega
        have g2:((s[k+1].toNat:Int) == 92)=false:=by simp;omega
        by_cases d2:s[k+1].toNat=110
        ·rw[if_pos d2] at hS
         have g3:((s[k+1].toNat:Int) == 110)=true:=by simp;omega
         have hN:=zh ((zu hI).next hlt c10 c34 _ _ hS (by decide));have hz:Hd ((t++{ data:=#[10] }).size≤4000∧TP s o (k+2) (f - 1) (L (t++{ data:=#[10] }))):=by
          have:=zu hN;rw[L_append];refine⟨?_,this⟩;have hl:=this.len;rw[List.length_append,L_len] at hl;rw[ByteArray.size_append];show t.size+1≤4000;simp at hl;omega
         clear d1 d2 c34 c10 c92 hS hN
         go_wp2
         go_round
         case rel=>exact⟨k+2,_,_,by omega,by go_num,rfl,(zu hz).1,(zu hz).2⟩
         case measure=>simp[intOf];omega
        ·rw[if_neg d2] at hS
         have g3:((s[k+1].toNat:Int) == 110)=false:=by simp;omega
         have R:=zh (rtx_none ((zu hI).bad hlt (Or.inr ⟨c34,by rw[hS]⟩)));clear d1 d2 c34 c10 c92 hS
         go_wp2
         go_ret3
         exact⟨ret_val (zu R).symm,rfl⟩
      ·have e1:((k:Int)+1 == (s.size:Int))=true:=by simp;omega
       have R:=zh (rtx_none ((zu hI).bad hlt (Or.inr ⟨c34,sg_at1 hlt (by omega) c92⟩)));clear c34 c10 c92
       go_wp2
       go_ret3
       exact⟨ret_val (zu R).symm,rfl⟩
     ·have b3:((s[k].toNat:Int) == 92)=false:=by simp;omega
      have hN:=zh ((zu hI).next hlt c10 c34 _ _ (sg_at0 hlt c92) (by decide));have hz:Hd ((t++s.extract k (k+1)).size≤4000∧TP s o (k+1) (f - 1) (L (t++s.extract k (k+1)))):=by
       have:=zu hN;rw[L_append,L_one s k hlt];refine⟨?_,this⟩;have hl:=this.len;rw[List.length_append,L_len] at hl;have hsz:(s.extract k (k+1)).size=1:=by rw[← L_len,L_one s k hlt];rfl
       rw[ByteArray.size_append,hsz];simp at hl;omega
      clear c34 c10 c92 hN
      go_wp2
      go_round
      case rel=>exact⟨k+1,_,_,by omega,by go_num,rfl,(zu hz).1,(zu hz).2⟩
      case measure=>simp[intOf];omega
  ·have R:=zh (rtx_none ((zu hI).stop (by omega)))
   go_wp2
   go_ret3
   exact⟨ret_val (zu R).symm,rfl⟩
end
end Go.Proofs.YtjnpehohialmbaaGreat
