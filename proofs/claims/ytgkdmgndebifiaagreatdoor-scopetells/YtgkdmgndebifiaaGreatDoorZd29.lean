/- What the laws of words call: all words of a text that has them;whether a text is a name;awake. · The document's answer for words: its digits,letters,numbers,words of the language,ops. · The document's answer for words: its ops and its texts between quotes. · The document's answer for words: its texts between quotes. -/
import Derived.Test.YtgkdmgndebifiaaGreatDoorZd3
set_option linter.unusedSimpArgs false
set_option linter.unusedVariables false
set_option maxRecDepth 10000
namespace Go.Proofs.YtgkdmgndebifiaaGreatDoor
open Go.RowKit
def nameB (s:ByteArray):Bool :=
 match tokT s 0 with
 | none => false
 | some (k,_,_,m) => decide (s.size ≤ 16) && (decide (k = 1) && decide (m = s.size))
theorem toL_nil (s:ByteArray) (h:s.size ≠ 0):(s.toList == []) = false:=by
 rw [toL]
 cases hL:L s with
 | nil => have:=L_len s;rw [hL] at this;simp at this;omega
 | cons c r => rfl
theorem toL_emp (s:ByteArray) (h:s.size = 0):(s.toList == []) = true:=by
 have e:L s = []:=List.eq_nil_of_length_eq_zero (by rw [L_len];exact h)
 rw [toL,e];rfl
end Go.Proofs.YtgkdmgndebifiaaGreatDoor
namespace Go.Proofs.YtgkdmgndebifiaaGreatDoor
open Go.RowKit
theorem rdigit_any (c:UInt8) (w:World):Calls Tryz.prog 25 #[.int .u8 c.toNat] w fun e w' => e = .returned (.bool (dg c)) ∧ w' = w:=by
 have h:=c.toNat_lt
 have D:=hide (dg_iff c)
 rcases (show c.toNat < 48 ∨ (48 ≤ c.toNat ∧ c.toNat ≤ 57) ∨ 57 < c.toNat by omega) with h1 | ⟨h1,h2⟩ | h1
 all_goals
  go_enter Tryz.func25,Tryz.ntmps25
  go_wp2
  go_ret
  refine ⟨ret_bool ?_,rfl⟩
  rw [Bool.eq_iff_iff,unhide D]
  simp <;> omega
set_option maxHeartbeats 1000000 in
theorem rletter_A (c:UInt8) (w:World) (h1:c.toNat < 65):Calls Tryz.prog 27 #[.int .u8 c.toNat] w fun e w' => e = .returned (.bool (nm c)) ∧ w' = w:=by
 have h:=c.toNat_lt
 have e95:((c.toNat:Int) == 95) = false:=by simp;omega
 have hn:=hide (nm_dg c h1)
 have i0:¬ ((97:Int) ≤ c.toNat):=by omega
 have i1:¬ ((65:Int) ≤ c.toNat):=by omega
 clear h1
 go_enter Tryz.func27,Tryz.ntmps27
 go_wp2_with (go_at_call 25;refine (rdigit_any _ _).mono ?_;rintro e w' ⟨rfl,rfl⟩)
 go_ret
 exact ⟨ret_bool (unhide hn).symm,rfl⟩
set_option maxHeartbeats 1000000 in
theorem rletter_B (c:UInt8) (w:World) (h1:65 ≤ c.toNat ∧ c.toNat ≤ 90):Calls Tryz.prog 27 #[.int .u8 c.toNat] w fun e w' => e = .returned (.bool (nm c)) ∧ w' = w:=by
 have h:=c.toNat_lt
 have e95:((c.toNat:Int) == 95) = false:=by simp;omega
 have hn:=hide (nm_yes c (by omega))
 have i0:¬ ((97:Int) ≤ c.toNat):=by omega
 have i1:(65:Int) ≤ c.toNat:=by omega
 have i2:(c.toNat:Int) ≤ 90:=by omega
 clear h1
 go_enter Tryz.func27,Tryz.ntmps27
 go_wp2_with (go_at_call 25;refine (rdigit_any _ _).mono ?_;rintro e w' ⟨rfl,rfl⟩)
 go_ret
 exact ⟨ret_bool (unhide hn).symm,rfl⟩
set_option maxHeartbeats 1000000 in
theorem rletter_C (c:UInt8) (w:World) (h1:90 < c.toNat ∧ c.toNat < 95):Calls Tryz.prog 27 #[.int .u8 c.toNat] w fun e w' => e = .returned (.bool (nm c)) ∧ w' = w:=by
 have h:=c.toNat_lt
 have e95:((c.toNat:Int) == 95) = false:=by simp;omega
 have hn:=hide (nm_no c (by omega))
 have i0:¬ ((97:Int) ≤ c.toNat):=by omega
 have i1:(65:Int) ≤ c.toNat:=by omega
 have i2:¬ ((c.toNat:Int) ≤ 90):=by omega
 clear h1
 go_enter Tryz.func27,Tryz.ntmps27
 go_wp2_with (go_at_call 25;refine (rdigit_any _ _).mono ?_;rintro e w' ⟨rfl,rfl⟩)
 go_ret
 exact ⟨ret_bool (unhide hn).symm,rfl⟩
set_option maxHeartbeats 1000000 in
theorem rletter_D (c:UInt8) (w:World) (h1:c.toNat = 95):Calls Tryz.prog 27 #[.int .u8 c.toNat] w fun e w' => e = .returned (.bool (nm c)) ∧ w' = w:=by
 have h:=c.toNat_lt
 have e95:((c.toNat:Int) == 95) = true:=by simp;omega
 have hn:=hide (nm_yes c (by omega))
 have i0:¬ ((97:Int) ≤ c.toNat):=by omega
 have i1:(65:Int) ≤ c.toNat:=by omega
 have i2:¬ ((c.toNat:Int) ≤ 90):=by omega
 clear h1
 go_enter Tryz.func27,Tryz.ntmps27
 go_wp2_with (go_at_call 25;refine (rdigit_any _ _).mono ?_;rintro e w' ⟨rfl,rfl⟩)
 go_ret
 exact ⟨ret_bool (unhide hn).symm,rfl⟩
set_option maxHeartbeats 1000000 in
theorem rletter_E (c:UInt8) (w:World) (h1:c.toNat = 96):Calls Tryz.prog 27 #[.int .u8 c.toNat] w fun e w' => e = .returned (.bool (nm c)) ∧ w' = w:=by
 have h:=c.toNat_lt
 have e95:((c.toNat:Int) == 95) = false:=by simp;omega
 have hn:=hide (nm_no c (by omega))
 have i0:¬ ((97:Int) ≤ c.toNat):=by omega
 have i1:(65:Int) ≤ c.toNat:=by omega
 have i2:¬ ((c.toNat:Int) ≤ 90):=by omega
 clear h1
 go_enter Tryz.func27,Tryz.ntmps27
 go_wp2_with (go_at_call 25;refine (rdigit_any _ _).mono ?_;rintro e w' ⟨rfl,rfl⟩)
 go_ret
 exact ⟨ret_bool (unhide hn).symm,rfl⟩
set_option maxHeartbeats 1000000 in
theorem rletter_F (c:UInt8) (w:World) (h1:97 ≤ c.toNat ∧ c.toNat ≤ 122):Calls Tryz.prog 27 #[.int .u8 c.toNat] w fun e w' => e = .returned (.bool (nm c)) ∧ w' = w:=by
 have h:=c.toNat_lt
 have e95:((c.toNat:Int) == 95) = false:=by simp;omega
 have hn:=hide (nm_yes c (by omega))
 have i0:(97:Int) ≤ c.toNat:=by omega
 have i1:(c.toNat:Int) ≤ 122:=by omega
 clear h1
 go_enter Tryz.func27,Tryz.ntmps27
 go_wp2_with (go_at_call 25;refine (rdigit_any _ _).mono ?_;rintro e w' ⟨rfl,rfl⟩)
 go_ret
 exact ⟨ret_bool (unhide hn).symm,rfl⟩
set_option maxHeartbeats 1000000 in
theorem rletter_G (c:UInt8) (w:World) (h1:122 < c.toNat):Calls Tryz.prog 27 #[.int .u8 c.toNat] w fun e w' => e = .returned (.bool (nm c)) ∧ w' = w:=by
 have h:=c.toNat_lt
 have e95:((c.toNat:Int) == 95) = false:=by simp;omega
 have hn:=hide (nm_no c (by omega))
 have i0:(97:Int) ≤ c.toNat:=by omega
 have i1:¬ ((c.toNat:Int) ≤ 122):=by omega
 have i2:(65:Int) ≤ c.toNat:=by omega
 have i3:¬ ((c.toNat:Int) ≤ 90):=by omega
 clear h1
 go_enter Tryz.func27,Tryz.ntmps27
 go_wp2_with (go_at_call 25;refine (rdigit_any _ _).mono ?_;rintro e w' ⟨rfl,rfl⟩)
 go_ret
 exact ⟨ret_bool (unhide hn).symm,rfl⟩
theorem rletter_any (c:UInt8) (w:World):Calls Tryz.prog 27 #[.int .u8 c.toNat] w fun e w' => e = .returned (.bool (nm c)) ∧ w' = w:=by
 have h:=c.toNat_lt
 rcases (show (c.toNat < 65) ∨ (65 ≤ c.toNat ∧ c.toNat ≤ 90) ∨ (90 < c.toNat ∧ c.toNat < 95) ∨ (c.toNat = 95) ∨ (c.toNat = 96) ∨ (97 ≤ c.toNat ∧ c.toNat ≤ 122) ∨ (122 < c.toNat) by omega) with h | h | h | h | h | h | h
 ·exact rletter_A c w h
 ·exact rletter_B c w h
 ·exact rletter_C c w h
 ·exact rletter_D c w h
 ·exact rletter_E c w h
 ·exact rletter_F c w h
 ·exact rletter_G c w h
theorem ret_ib {a b:Int} {p q:Bool} (h:a = b) (k:p = q):Ending.returned (.tuple #[.int .i64 a,.bool p]) = .returned (.tuple #[.int .i64 b,.bool q]):=by rw [h,k]
def numR (l:List UInt8):Option Nat:=if dv 0 l ≤ 9223372036854775807 then some (dv 0 l) else none
set_option maxHeartbeats 2000000 in
theorem rnumber_any (s:ByteArray) (w:World) (hs:s.size ≤ 4000) (hd:∀ c ∈ L s,dg c = true) :
  Calls Tryz.prog 26 #[.string s] w fun e w' => e = .returned (.tuple #[.int .i64 ((numR (L s)).getD 0:Nat),.bool (numR (L s)).isSome]) ∧ w' = w:=by
 go_enter Tryz.func26,Tryz.ntmps26
 go_wp2
 go_loop [4,5] (fun v i => ∃ k m:Nat,k ≤ s.size ∧ i = .int .i64 k ∧ v = .int .i64 m ∧ m ≤ 9223372036854775807 ∧ Hd (dv 0 (L s) = dv m ((L s).drop k))) (fun _ i => s.size - (intOf i).toNat)
 case atStart => exact ⟨0,0,Nat.zero_le _,rfl,rfl,by omega,by rw [List.drop_zero];exact rfl⟩
 case round =>
  obtain ⟨k,m,hk,rfl,rfl,hm,hI⟩:=hrel
  by_cases hlt:k < s.size
  ·have hdg:dg s[k] = true:=hd _ (List.mem_of_getElem? (L_get s k hlt))
   have hdn:=(dg_iff _).1 hdg
   obtain ⟨d,hd'⟩:∃ d,d = s[k].toNat - 48:=⟨_,rfl⟩
   have hsub:(s[k].toNat:Int) - 48 = (d:Int):=by omega
   have hd9:d ≤ 9:=by omega
   have E:Hd (dv 0 (L s) = dv (m * 10 + d) ((L s).drop (k + 1))):=by
    rw [unhide hI,L_drop s k hlt,dv_cons,← hd'];exact rfl
   have hsn:48 ≤ (s[k].toNat:Int):=by omega
   clear hd' hdn hdg
   by_cases hb:m * 10 + d ≤ 9223372036854775807
   ·have hq:¬ ((9223372036854775807 - (d:Int)) / 10 < (m:Int)):=by omega
    go_wp2
    go_round
    case rel => exact ⟨k + 1,m * 10 + d,by omega,by go_num,by go_num,hb,E⟩
    case measure => simp [intOf];omega
   ·have hq:(9223372036854775807 - (d:Int)) / 10 < (m:Int):=by omega
    have G:Hd (numR (L s) = none):=by
     have:=dv_ge ((L s).drop (k + 1)) (m * 10 + d)
     unfold numR
     rw [if_neg (by rw [unhide E];omega)]
     exact rfl
    go_wp2
    go_ret2
    exact ⟨ret_ib (by rw [unhide G];rfl) (by rw [unhide G];rfl),rfl⟩
  ·have E:Hd (numR (L s) = some m):=by
    unfold numR
    rw [unhide hI,L_end s k (by omega),dv_nil,if_pos hm]
    exact rfl
   go_wp2
   go_ret2
   exact ⟨ret_ib (by rw [unhide E];rfl) (by rw [unhide E];rfl),rfl⟩
def wds:List (List UInt8):=[[102,110],[108,101,116],[105,102],[101,108,115,101],[119,104,105,108,101],[98,114,101,97,107],[99,111,110,116,105,110,117,101],[114,101,116,117,114,110],[112,114,105,110,116],[110,105,108]]
theorem word_any (l:List UInt8):wordL l = wds.any fun x => x == l:=by
 have hc:(wds.any fun x => x == l) = wds.any fun x => l == x:=congrArg (wds.any ·) (funext fun x => by rw [Bool.eq_iff_iff,beq_iff_eq,beq_iff_eq];exact eq_comm)
 rw [hc]
 simp only [wds,List.any_cons,List.any_nil,wordL,Bool.or_false,Bool.or_assoc]
set_option maxHeartbeats 2000000 in
theorem risWord_any (s:ByteArray) (w:World) :
  Calls Tryz.prog 28 #[.string s] w fun e w' => e = .returned (.bool (wordL (L s))) ∧ Ext w w':=by
 have K:Hd (wordL (L s) = wds.any fun x => x == s.toList):=by rw [toL,word_any];exact rfl
 go_enter Tryz.func28,Tryz.ntmps28
 go_wp2
 obtain ⟨W1,hW1⟩:∃ W1,W1 = w.alloc (Obj.cells #[Value.string { data:=#[102,110] },Value.string { data:=#[108,101,116] },Value.string { data:=#[105,102] },Value.string { data:=#[101,108,115,101] },Value.string { data:=#[119,104,105,108,101] },Value.string { data:=#[98,114,101,97,107] },Value.string { data:=#[99,111,110,116,105,110,117,101] },Value.string { data:=#[114,101,116,117,114,110] },Value.string { data:=#[112,114,105,110,116] },Value.string { data:=#[110,105,108] }] 9):=⟨_,rfl⟩
 rw [← hW1]
 have hcell:∀ k (hk:k < 10),W1.cell? ⟨w.heap.size,k,none⟩ = some (.string ⟨(wds[k]'(by exact hk)).toArray⟩):=by
  intro k hk
  rw [hW1]
  refine cell_box w _ _ k ?_
  rcases (show k = 0 ∨ k = 1 ∨ k = 2 ∨ k = 3 ∨ k = 4 ∨ k = 5 ∨ k = 6 ∨ k = 7 ∨ k = 8 ∨ k = 9 by omega) with rfl | rfl | rfl | rfl | rfl | rfl | rfl | rfl | rfl | rfl <;> rfl
 have X:Hd (Ext w W1):=by rw [hW1];exact Ext.alloc _ _
 clear hW1
 go_loop [4] (fun i => ∃ k:Nat,k ≤ 10 ∧ i = .int .i64 k ∧ Hd (((wds.take k).any fun x => x == s.toList) = false)) (fun i => 10 - (intOf i).toNat)
 case atStart => exact ⟨0,Nat.zero_le _,rfl,rfl⟩
 case round =>
  obtain ⟨k,hk,rfl,hI⟩:=hrel
  by_cases hlt:k < 10
  ·have hc:=hcell k hlt
   have hts:wds.take (k + 1) = wds.take k ++ [wds[k]'(by exact hlt)]:=List.take_succ_eq_append_getElem (by exact hlt)
   have TS:=hide hts
   clear hts
   have htl:(⟨(wds[k]'(by exact hlt)).toArray⟩:ByteArray).toList = wds[k]'(by exact hlt):=ByteArray.toList_mk _
   have HM:Hd (wds[k]'(by exact hlt) ∈ wds):=List.getElem_mem _
   obtain ⟨x,hx⟩:∃ x,x = wds[k]'(by exact hlt):=⟨_,rfl⟩
   rw [← hx] at hc TS htl HM
   clear hx hcell
   cases hb:(x == s.toList) with
   | true =>
    go_wp2
    go_ret
    refine ⟨ret_bool ?_,unhide X⟩
    rw [unhide K]
    exact (List.any_eq_true.2 ⟨x,unhide HM,hb⟩).symm
   | false =>
    have hN:Hd (((wds.take (k + 1)).any fun x => x == s.toList) = false):=by
     rw [unhide TS,List.any_append,unhide hI]
     show (false || ((x == s.toList) || false)) = false
     rw [hb];rfl
    go_wp2
    go_round
    case rel => exact ⟨k + 1,by omega,by go_num,hN⟩
    case measure => simp [intOf];omega
  ·have hF:Hd (wordL (L s) = false):=by
    rw [unhide K]
    have:=unhide hI
    rw [List.take_of_length_le (by show 10 ≤ k;omega)] at this
    exact this
   go_wp2
   go_ret
   exact ⟨ret_bool (unhide hF).symm,unhide X⟩
end Go.Proofs.YtgkdmgndebifiaaGreatDoor
namespace Go.Proofs.YtgkdmgndebifiaaGreatDoor
open Go.RowKit
theorem key_byte (c d:UInt8):([c] == [d]) = ((c.toNat:Int) == (d.toNat:Int)):=by
 rw [Bool.eq_iff_iff,beq_iff_eq,beq_iff_eq]
 constructor
 ·intro h;injection h with h;rw [h]
 ·intro h
  have:c = d:=UInt8.toNat.inj (by omega)
  rw [this]
theorem o1_byte (c:UInt8):o1 [c] = (((c.toNat:Int) == 40) || ((c.toNat:Int) == 41) || ((c.toNat:Int) == 123) || ((c.toNat:Int) == 125) || ((c.toNat:Int) == 91) || ((c.toNat:Int) == 93) || ((c.toNat:Int) == 44) || ((c.toNat:Int) == 59) || ((c.toNat:Int) == 61) || ((c.toNat:Int) == 43) || ((c.toNat:Int) == 45) || ((c.toNat:Int) == 42) || ((c.toNat:Int) == 47) || ((c.toNat:Int) == 37) || ((c.toNat:Int) == 60) || ((c.toNat:Int) == 62) || ((c.toNat:Int) == 33)):=by
 simp only [o1,key_byte]
 rfl
def opS (s:ByteArray):ByteArray:=s.extract 0 (opL (L s))
theorem ret_str {a b:ByteArray} (h:a = b):Ending.returned (.string a) = .returned (.string b):=by rw [h]
theorem ext00 (s:ByteArray):s.extract 0 0 = ⟨#[]⟩:=by
 apply L_inj
 rw [L_extract]
 rfl
def o1b (c:UInt8):Bool:=((c.toNat:Int) == 40) || ((c.toNat:Int) == 41) || ((c.toNat:Int) == 123) || ((c.toNat:Int) == 125) || ((c.toNat:Int) == 91) || ((c.toNat:Int) == 93) || ((c.toNat:Int) == 44) || ((c.toNat:Int) == 59) || ((c.toNat:Int) == 61) || ((c.toNat:Int) == 43) || ((c.toNat:Int) == 45) || ((c.toNat:Int) == 42) || ((c.toNat:Int) == 47) || ((c.toNat:Int) == 37) || ((c.toNat:Int) == 60) || ((c.toNat:Int) == 62) || ((c.toNat:Int) == 33)
set_option maxHeartbeats 8000000 in
theorem rop_two (s:ByteArray) (w:World) (h1:2 ≤ s.size) (hs:s.size ≤ 140737488355328) :
  Calls Tryz.prog 30 #[.string s] w fun e w' => e = .returned (.string (opS s)) ∧ w' = w:=by
 have hone:(L s).take 1 = [s[0]]:=by
  have:=L_drop s 0 (by omega)
  rw [List.drop_zero] at this
  rw [this]
  rfl
 have ht2:(L s).take 2 = (s.extract 0 2).toList:=by rw [toL,L_extract,List.drop_zero]
 have V2:Hd (o2 (s.extract 0 2).toList = true → s.extract 0 2 = opS s):=by
  intro h
  unfold opS opL
  rw [ht2]
  rw [if_pos h]
 have V1:Hd (o2 (s.extract 0 2).toList = false → o1b s[0] = true → s.extract 0 1 = opS s):=by
  intro h h1
  unfold opS opL
  rw [ht2]
  rw [if_neg (by rw [h];decide),hone,o1_byte]
  rw [if_pos (by exact h1)]
 have V0:Hd (o2 (s.extract 0 2).toList = false → o1b s[0] = false → (⟨#[]⟩:ByteArray) = opS s):=by
  intro h h1
  unfold opS opL
  rw [ht2]
  rw [if_neg (by rw [h];decide),hone,o1_byte]
  rw [if_neg (by show ¬ o1b s[0] = true;rw [h1];decide)]
  exact (ext00 s).symm
 clear hone ht2
 rcases Bool.eq_false_or_eq_true ((s.extract 0 2).toList == [61,61]) with p0 | p0
 ·(go_enter Tryz.func30,Tryz.ntmps30;go_wp2;go_ret;exact ⟨ret_str ((unhide V2) (by simp_all [o2])),rfl⟩)
 rcases Bool.eq_false_or_eq_true ((s.extract 0 2).toList == [33,61]) with p1 | p1
 ·(go_enter Tryz.func30,Tryz.ntmps30;go_wp2;go_ret;exact ⟨ret_str ((unhide V2) (by simp_all [o2])),rfl⟩)
 rcases Bool.eq_false_or_eq_true ((s.extract 0 2).toList == [60,61]) with p2 | p2
 ·(go_enter Tryz.func30,Tryz.ntmps30;go_wp2;go_ret;exact ⟨ret_str ((unhide V2) (by simp_all [o2])),rfl⟩)
 rcases Bool.eq_false_or_eq_true ((s.extract 0 2).toList == [62,61]) with p3 | p3
 ·(go_enter Tryz.func30,Tryz.ntmps30;go_wp2;go_ret;exact ⟨ret_str ((unhide V2) (by simp_all [o2])),rfl⟩)
 rcases Bool.eq_false_or_eq_true ((s.extract 0 2).toList == [38,38]) with p4 | p4
 ·(go_enter Tryz.func30,Tryz.ntmps30;go_wp2;go_ret;exact ⟨ret_str ((unhide V2) (by simp_all [o2])),rfl⟩)
 rcases Bool.eq_false_or_eq_true ((s.extract 0 2).toList == [124,124]) with p5 | p5
 ·(go_enter Tryz.func30,Tryz.ntmps30;go_wp2;go_ret;exact ⟨ret_str ((unhide V2) (by simp_all [o2])),rfl⟩)
 rcases Bool.eq_false_or_eq_true ((s[0].toNat:Int) == 40) with q0 | q0
 ·(go_enter Tryz.func30,Tryz.ntmps30;go_wp2;go_ret;exact ⟨ret_str ((unhide V1) (by simp_all [o2]) (by simp_all [o1b])),rfl⟩)
 rcases Bool.eq_false_or_eq_true ((s[0].toNat:Int) == 41) with q1 | q1
 ·(go_enter Tryz.func30,Tryz.ntmps30;go_wp2;go_ret;exact ⟨ret_str ((unhide V1) (by simp_all [o2]) (by simp_all [o1b])),rfl⟩)
 rcases Bool.eq_false_or_eq_true ((s[0].toNat:Int) == 123) with q2 | q2
 ·(go_enter Tryz.func30,Tryz.ntmps30;go_wp2;go_ret;exact ⟨ret_str ((unhide V1) (by simp_all [o2]) (by simp_all [o1b])),rfl⟩)
 rcases Bool.eq_false_or_eq_true ((s[0].toNat:Int) == 125) with q3 | q3
 ·(go_enter Tryz.func30,Tryz.ntmps30;go_wp2;go_ret;exact ⟨ret_str ((unhide V1) (by simp_all [o2]) (by simp_all [o1b])),rfl⟩)
 rcases Bool.eq_false_or_eq_true ((s[0].toNat:Int) == 91) with q4 | q4
 ·(go_enter Tryz.func30,Tryz.ntmps30;go_wp2;go_ret;exact ⟨ret_str ((unhide V1) (by simp_all [o2]) (by simp_all [o1b])),rfl⟩)
 rcases Bool.eq_false_or_eq_true ((s[0].toNat:Int) == 93) with q5 | q5
 ·(go_enter Tryz.func30,Tryz.ntmps30;go_wp2;go_ret;exact ⟨ret_str ((unhide V1) (by simp_all [o2]) (by simp_all [o1b])),rfl⟩)
 rcases Bool.eq_false_or_eq_true ((s[0].toNat:Int) == 44) with q6 | q6
 ·(go_enter Tryz.func30,Tryz.ntmps30;go_wp2;go_ret;exact ⟨ret_str ((unhide V1) (by simp_all [o2]) (by simp_all [o1b])),rfl⟩)
 rcases Bool.eq_false_or_eq_true ((s[0].toNat:Int) == 59) with q7 | q7
 ·(go_enter Tryz.func30,Tryz.ntmps30;go_wp2;go_ret;exact ⟨ret_str ((unhide V1) (by simp_all [o2]) (by simp_all [o1b])),rfl⟩)
 rcases Bool.eq_false_or_eq_true ((s[0].toNat:Int) == 61) with q8 | q8
 ·(go_enter Tryz.func30,Tryz.ntmps30;go_wp2;go_ret;exact ⟨ret_str ((unhide V1) (by simp_all [o2]) (by simp_all [o1b])),rfl⟩)
 rcases Bool.eq_false_or_eq_true ((s[0].toNat:Int) == 43) with q9 | q9
 ·(go_enter Tryz.func30,Tryz.ntmps30;go_wp2;go_ret;exact ⟨ret_str ((unhide V1) (by simp_all [o2]) (by simp_all [o1b])),rfl⟩)
 rcases Bool.eq_false_or_eq_true ((s[0].toNat:Int) == 45) with q10 | q10
 ·(go_enter Tryz.func30,Tryz.ntmps30;go_wp2;go_ret;exact ⟨ret_str ((unhide V1) (by simp_all [o2]) (by simp_all [o1b])),rfl⟩)
 rcases Bool.eq_false_or_eq_true ((s[0].toNat:Int) == 42) with q11 | q11
 ·(go_enter Tryz.func30,Tryz.ntmps30;go_wp2;go_ret;exact ⟨ret_str ((unhide V1) (by simp_all [o2]) (by simp_all [o1b])),rfl⟩)
 rcases Bool.eq_false_or_eq_true ((s[0].toNat:Int) == 47) with q12 | q12
 ·(go_enter Tryz.func30,Tryz.ntmps30;go_wp2;go_ret;exact ⟨ret_str ((unhide V1) (by simp_all [o2]) (by simp_all [o1b])),rfl⟩)
 rcases Bool.eq_false_or_eq_true ((s[0].toNat:Int) == 37) with q13 | q13
 ·(go_enter Tryz.func30,Tryz.ntmps30;go_wp2;go_ret;exact ⟨ret_str ((unhide V1) (by simp_all [o2]) (by simp_all [o1b])),rfl⟩)
 rcases Bool.eq_false_or_eq_true ((s[0].toNat:Int) == 60) with q14 | q14
 ·(go_enter Tryz.func30,Tryz.ntmps30;go_wp2;go_ret;exact ⟨ret_str ((unhide V1) (by simp_all [o2]) (by simp_all [o1b])),rfl⟩)
 rcases Bool.eq_false_or_eq_true ((s[0].toNat:Int) == 62) with q15 | q15
 ·(go_enter Tryz.func30,Tryz.ntmps30;go_wp2;go_ret;exact ⟨ret_str ((unhide V1) (by simp_all [o2]) (by simp_all [o1b])),rfl⟩)
 rcases Bool.eq_false_or_eq_true ((s[0].toNat:Int) == 33) with q16 | q16
 ·(go_enter Tryz.func30,Tryz.ntmps30;go_wp2;go_ret;exact ⟨ret_str ((unhide V1) (by simp_all [o2]) (by simp_all [o1b])),rfl⟩)
 go_enter Tryz.func30,Tryz.ntmps30
 go_wp2
 go_ret
 exact ⟨ret_str ((unhide V0) (by simp_all [o2]) (by simp_all [o1b])),rfl⟩
set_option maxHeartbeats 8000000 in
theorem rop_one (s:ByteArray) (w:World) (h1:s.size = 1) :
  Calls Tryz.prog 30 #[.string s] w fun e w' => e = .returned (.string (opS s)) ∧ w' = w:=by
 have hone:(L s).take 1 = [s[0]]:=by
  have:=L_drop s 0 (by omega)
  rw [List.drop_zero] at this
  rw [this]
  rfl
 have ht2:(L s).take 2 = [s[0]]:=by
  rw [List.take_of_length_le (by rw [L_len];omega),← hone,List.take_of_length_le (by rw [L_len];omega)]
 have V2:Hd (o2 [s[0]] = true → s.extract 0 2 = opS s):=by
  intro h
  unfold opS opL
  rw [ht2]
  rw [if_pos h]
 have V1:Hd (o2 [s[0]] = false → o1b s[0] = true → s.extract 0 1 = opS s):=by
  intro h h1
  unfold opS opL
  rw [ht2]
  rw [if_neg (by rw [h];decide),hone,o1_byte]
  rw [if_pos (by exact h1)]
 have V0:Hd (o2 [s[0]] = false → o1b s[0] = false → (⟨#[]⟩:ByteArray) = opS s):=by
  intro h h1
  unfold opS opL
  rw [ht2]
  rw [if_neg (by rw [h];decide),hone,o1_byte]
  rw [if_neg (by show ¬ o1b s[0] = true;rw [h1];decide)]
  exact (ext00 s).symm
 clear hone ht2
 rcases Bool.eq_false_or_eq_true ((s[0].toNat:Int) == 40) with q0 | q0
 ·(go_enter Tryz.func30,Tryz.ntmps30;go_wp2;go_ret;exact ⟨ret_str ((unhide V1) (by simp_all [o2]) (by simp_all [o1b])),rfl⟩)
 rcases Bool.eq_false_or_eq_true ((s[0].toNat:Int) == 41) with q1 | q1
 ·(go_enter Tryz.func30,Tryz.ntmps30;go_wp2;go_ret;exact ⟨ret_str ((unhide V1) (by simp_all [o2]) (by simp_all [o1b])),rfl⟩)
 rcases Bool.eq_false_or_eq_true ((s[0].toNat:Int) == 123) with q2 | q2
 ·(go_enter Tryz.func30,Tryz.ntmps30;go_wp2;go_ret;exact ⟨ret_str ((unhide V1) (by simp_all [o2]) (by simp_all [o1b])),rfl⟩)
 rcases Bool.eq_false_or_eq_true ((s[0].toNat:Int) == 125) with q3 | q3
 ·(go_enter Tryz.func30,Tryz.ntmps30;go_wp2;go_ret;exact ⟨ret_str ((unhide V1) (by simp_all [o2]) (by simp_all [o1b])),rfl⟩)
 rcases Bool.eq_false_or_eq_true ((s[0].toNat:Int) == 91) with q4 | q4
 ·(go_enter Tryz.func30,Tryz.ntmps30;go_wp2;go_ret;exact ⟨ret_str ((unhide V1) (by simp_all [o2]) (by simp_all [o1b])),rfl⟩)
 rcases Bool.eq_false_or_eq_true ((s[0].toNat:Int) == 93) with q5 | q5
 ·(go_enter Tryz.func30,Tryz.ntmps30;go_wp2;go_ret;exact ⟨ret_str ((unhide V1) (by simp_all [o2]) (by simp_all [o1b])),rfl⟩)
 rcases Bool.eq_false_or_eq_true ((s[0].toNat:Int) == 44) with q6 | q6
 ·(go_enter Tryz.func30,Tryz.ntmps30;go_wp2;go_ret;exact ⟨ret_str ((unhide V1) (by simp_all [o2]) (by simp_all [o1b])),rfl⟩)
 rcases Bool.eq_false_or_eq_true ((s[0].toNat:Int) == 59) with q7 | q7
 ·(go_enter Tryz.func30,Tryz.ntmps30;go_wp2;go_ret;exact ⟨ret_str ((unhide V1) (by simp_all [o2]) (by simp_all [o1b])),rfl⟩)
 rcases Bool.eq_false_or_eq_true ((s[0].toNat:Int) == 61) with q8 | q8
 ·(go_enter Tryz.func30,Tryz.ntmps30;go_wp2;go_ret;exact ⟨ret_str ((unhide V1) (by simp_all [o2]) (by simp_all [o1b])),rfl⟩)
 rcases Bool.eq_false_or_eq_true ((s[0].toNat:Int) == 43) with q9 | q9
 ·(go_enter Tryz.func30,Tryz.ntmps30;go_wp2;go_ret;exact ⟨ret_str ((unhide V1) (by simp_all [o2]) (by simp_all [o1b])),rfl⟩)
 rcases Bool.eq_false_or_eq_true ((s[0].toNat:Int) == 45) with q10 | q10
 ·(go_enter Tryz.func30,Tryz.ntmps30;go_wp2;go_ret;exact ⟨ret_str ((unhide V1) (by simp_all [o2]) (by simp_all [o1b])),rfl⟩)
 rcases Bool.eq_false_or_eq_true ((s[0].toNat:Int) == 42) with q11 | q11
 ·(go_enter Tryz.func30,Tryz.ntmps30;go_wp2;go_ret;exact ⟨ret_str ((unhide V1) (by simp_all [o2]) (by simp_all [o1b])),rfl⟩)
 rcases Bool.eq_false_or_eq_true ((s[0].toNat:Int) == 47) with q12 | q12
 ·(go_enter Tryz.func30,Tryz.ntmps30;go_wp2;go_ret;exact ⟨ret_str ((unhide V1) (by simp_all [o2]) (by simp_all [o1b])),rfl⟩)
 rcases Bool.eq_false_or_eq_true ((s[0].toNat:Int) == 37) with q13 | q13
 ·(go_enter Tryz.func30,Tryz.ntmps30;go_wp2;go_ret;exact ⟨ret_str ((unhide V1) (by simp_all [o2]) (by simp_all [o1b])),rfl⟩)
 rcases Bool.eq_false_or_eq_true ((s[0].toNat:Int) == 60) with q14 | q14
 ·(go_enter Tryz.func30,Tryz.ntmps30;go_wp2;go_ret;exact ⟨ret_str ((unhide V1) (by simp_all [o2]) (by simp_all [o1b])),rfl⟩)
 rcases Bool.eq_false_or_eq_true ((s[0].toNat:Int) == 62) with q15 | q15
 ·(go_enter Tryz.func30,Tryz.ntmps30;go_wp2;go_ret;exact ⟨ret_str ((unhide V1) (by simp_all [o2]) (by simp_all [o1b])),rfl⟩)
 rcases Bool.eq_false_or_eq_true ((s[0].toNat:Int) == 33) with q16 | q16
 ·(go_enter Tryz.func30,Tryz.ntmps30;go_wp2;go_ret;exact ⟨ret_str ((unhide V1) (by simp_all [o2]) (by simp_all [o1b])),rfl⟩)
 go_enter Tryz.func30,Tryz.ntmps30
 go_wp2
 go_ret
 exact ⟨ret_str ((unhide V0) (by simp_all [o2]) (by simp_all [o1b])),rfl⟩
theorem rop_any (s:ByteArray) (w:World) (h1:1 ≤ s.size) (hs:s.size ≤ 140737488355328) :
  Calls Tryz.prog 30 #[.string s] w fun e w' => e = .returned (.string (opS s)) ∧ w' = w:=by
 by_cases h:s.size = 1
 ·exact rop_one s w h
 ·exact rop_two s w (by omega) hs
end Go.Proofs.YtgkdmgndebifiaaGreatDoor
namespace Go.Proofs.YtgkdmgndebifiaaGreatDoor
open Go.RowKit
structure TP (s:ByteArray) (o k f:Nat) (acc:List UInt8):Prop where
 lo:o + 1 ≤ k
 eq:txF (s.size + 1) ((L s).drop (o + 1)) = (txF f ((L s).drop k)).map fun p => (acc ++ p.1,(k - (o + 1)) + p.2)
 fuel:s.size - k < f
 len:acc.length ≤ k
theorem TP.start (s:ByteArray) (o:Nat):TP s o (o + 1) (s.size + 1) []:=by
 refine ⟨Nat.le_refl _,?_,by omega,Nat.zero_le _⟩
 simp
theorem TP.next {s:ByteArray} {o k f:Nat} {acc:List UInt8} (h:TP s o k f acc) (hk:k < s.size) (h10:¬ s[k].toNat = 10) (h34:¬ s[k].toNat = 34) (b:UInt8) (n:Nat) (hb:sg ((L s).drop k) = (b,n)) (h0:¬ n = 0):TP s o (k + n) (f - 1) (acc ++ [b]):=by
 have hlo:=h.lo
 have hf:=h.fuel
 refine ⟨by omega,?_,by omega,?_⟩
 ·obtain ⟨g,rfl⟩:∃ g,f = g + 1:=⟨f - 1,by omega⟩
  rw [h.eq,L_drop s k hk,txF,if_neg h10,if_neg h34,← L_drop s k hk,hb,if_neg h0,List.drop_drop,Nat.add_sub_cancel,Option.map_map]
  congr 1
  funext p
  simp only [Function.comp,List.append_assoc,List.singleton_append,Prod.mk.injEq,true_and]
  omega
 ·rw [List.length_append];have:=h.len;simp;omega
theorem TP.stop {s:ByteArray} {o k f:Nat} {acc:List UInt8} (h:TP s o k f acc) (hk:s.size ≤ k):txF (s.size + 1) ((L s).drop (o + 1)) = none:=by
 rw [h.eq,L_end s k hk]
 cases f <;> rfl
theorem TP.bad {s:ByteArray} {o k f:Nat} {acc:List UInt8} (h:TP s o k f acc) (hk:k < s.size) (hb:s[k].toNat = 10 ∨ (¬ s[k].toNat = 34 ∧ (sg ((L s).drop k)).2 = 0)):txF (s.size + 1) ((L s).drop (o + 1)) = none:=by
 have hf:=h.fuel
 obtain ⟨g,rfl⟩:∃ g,f = g + 1:=⟨f - 1,by omega⟩
 rw [h.eq,L_drop s k hk,txF]
 by_cases h10:s[k].toNat = 10
 ·rw [if_pos h10];rfl
 ·rcases hb with hb | ⟨h34,h0⟩
  ·exact absurd hb h10
  ·rw [L_drop s k hk] at h0
   rw [if_neg h10,if_neg h34,if_pos h0];rfl
theorem TP.good {s:ByteArray} {o k f:Nat} {acc:List UInt8} (h:TP s o k f acc) (hk:k < s.size) (h34:s[k].toNat = 34):txF (s.size + 1) ((L s).drop (o + 1)) = some (acc,k - o):=by
 have hf:=h.fuel
 have hlo:=h.lo
 obtain ⟨g,rfl⟩:∃ g,f = g + 1:=⟨f - 1,by omega⟩
 rw [h.eq,L_drop s k hk,txF,if_neg (by omega),if_pos h34]
 simp
 omega
def rtx (s:ByteArray) (o:Nat):Value :=
 match txF (s.size + 1) ((L s).drop (o + 1)) with
 | some p => .tuple #[.string ⟨p.1.toArray⟩,.int .i64 ((o + 1 + p.2:Nat):Int),.bool true]
 | none => .tuple #[.string ⟨#[]⟩,.int .i64 0,.bool false]
theorem rtx_none {s:ByteArray} {o:Nat} (h:txF (s.size + 1) ((L s).drop (o + 1)) = none):rtx s o = .tuple #[.string ⟨#[]⟩,.int .i64 0,.bool false]:=by unfold rtx;rw [h]
theorem rtx_some {s:ByteArray} {o k:Nat} {t:ByteArray} (h:txF (s.size + 1) ((L s).drop (o + 1)) = some (L t,k - o)) (hk:o ≤ k):rtx s o = .tuple #[.string t,.int .i64 ((k:Int) + 1),.bool true]:=by
 unfold rtx
 rw [h]
 show Value.tuple #[.string ⟨(L t).toArray⟩,.int .i64 ((o + 1 + (k - o):Nat):Int),.bool true] = _
 rw [mk_L,show ((o + 1 + (k - o):Nat):Int) = (k:Int) + 1 by omega]
theorem sg_at1 {s:ByteArray} {k:Nat} (hk:k < s.size) (h:s.size ≤ k + 1) (h92:s[k].toNat = 92):(sg ((L s).drop k)).2 = 0:=by
 rw [L_drop s k hk,L_end s (k + 1) h]
 show (sg [_]).2 = 0
 rw [sg,if_pos h92]
theorem sg_at2 {s:ByteArray} {k:Nat} (hk:k < s.size) (h:k + 1 < s.size) (h92:s[k].toNat = 92):sg ((L s).drop k) = if s[k + 1].toNat = 34 ∨ s[k + 1].toNat = 92 then (s[k + 1],2) else if s[k + 1].toNat = 110 then (10,2) else (0,0):=by
 rw [L_drop s k hk,L_drop s (k + 1) h]
 show sg (_ :: _ :: _) = _
 rw [sg,if_pos h92]
theorem sg_at0 {s:ByteArray} {k:Nat} (hk:k < s.size) (h92:¬ s[k].toNat = 92):sg ((L s).drop k) = (s[k],1):=by
 rw [L_drop s k hk]
 cases (L s).drop (k + 1) with
 | nil => show sg [_] = _;rw [sg,if_neg h92]
 | cons d r => rw [sg,if_neg h92]
theorem L_one (s:ByteArray) (k:Nat) (h:k < s.size):L (s.extract k (k + 1)) = [s[k]]:=by
 rw [L_extract,L_drop s k h,Nat.add_sub_cancel_left]
 rfl
theorem ret_val {a b:Value} (h:a = b):Ending.returned a = .returned b:=by rw [h]
set_option maxHeartbeats 4000000 in
theorem rtext_any (s:ByteArray) (o:Nat) (w:World) (ho:o < s.size) (hs:s.size ≤ 4000) :
  Calls Tryz.prog 29 #[.string s,.int .i64 o] w fun e w' => e = .returned (rtx s o) ∧ w' = w:=by
 go_enter Tryz.func29,Tryz.ntmps29
 go_wp2
 go_loop [7,8] (fun v i => ∃ (k f:Nat) (t:ByteArray),k ≤ s.size ∧ i = .int .i64 k ∧ v = .string t ∧ t.size ≤ 4000 ∧ Hd (TP s o k f (L t))) (fun _ i => s.size - (intOf i).toNat)
 case atStart => exact ⟨o + 1,s.size + 1,⟨#[]⟩,by omega,by go_num,rfl,by decide,TP.start s o⟩
 case round =>
  obtain ⟨k,f,t,hk,rfl,rfl,ht,hI⟩:=hrel
  by_cases hlt:k < s.size
  ·by_cases c34:s[k].toNat = 34
   ·have b1:((s[k].toNat:Int) == 34) = true:=by simp;omega
    have R:=hide (rtx_some ((unhide hI).good hlt c34) (by have:=(unhide hI).lo;omega))
    clear c34
    go_wp2
    go_ret3
    exact ⟨ret_val (unhide R).symm,rfl⟩
   ·have b1:((s[k].toNat:Int) == 34) = false:=by simp;omega
    by_cases c10:s[k].toNat = 10
    ·have b2:((s[k].toNat:Int) == 10) = true:=by simp;omega
     have R:=hide (rtx_none ((unhide hI).bad hlt (Or.inl c10)))
     clear c34 c10
     go_wp2
     go_ret3
     exact ⟨ret_val (unhide R).symm,rfl⟩
    ·have b2:((s[k].toNat:Int) == 10) = false:=by simp;omega
     by_cases c92:s[k].toNat = 92
     ·have b3:((s[k].toNat:Int) == 92) = true:=by simp;omega
      by_cases h1:k + 1 < s.size
      ·have e1:((k:Int) + 1 == (s.size:Int)) = false:=by simp;omega
       have hS:=sg_at2 hlt h1 c92
       by_cases d1:s[k + 1].toNat = 34 ∨ s[k + 1].toNat = 92
       ·rw [if_pos d1] at hS
        have hN:=hide ((unhide hI).next hlt c10 c34 _ _ hS (by decide))
        have hz:Hd ((t ++ s.extract (k + 1) (k + 1 + 1)).size ≤ 4000 ∧ TP s o (k + 2) (f - 1) (L (t ++ s.extract (k + 1) (k + 1 + 1)))):=by
         have:=unhide hN
         rw [L_append,L_one s (k + 1) h1]
         refine ⟨?_,this⟩
         have hl:=this.len
         rw [List.length_append,L_len] at hl
         have hsz:(s.extract (k + 1) (k + 1 + 1)).size = 1:=by rw [← L_len,L_one s (k + 1) h1];rfl
         rw [ByteArray.size_append,hsz]
         simp at hl
         omega
        rcases (show (((s[k + 1].toNat:Int) == 34) = true) ∨ (((s[k + 1].toNat:Int) == 34) = false ∧ ((s[k + 1].toNat:Int) == 92) = true) by simp;omega) with g1 | ⟨g1,g2⟩
        all_goals
         clear d1 c34 c10 c92 hS hN
         go_wp2
         go_round
         case rel => exact ⟨k + 2,_,_,by omega,by go_num,rfl,(unhide hz).1,(unhide hz).2⟩
         case measure => simp [intOf];omega
       ·rw [if_neg d1] at hS
        have g1:((s[k + 1].toNat:Int) == 34) = false:=by simp;omega
        have g2:((s[k + 1].toNat:Int) == 92) = false:=by simp;omega
        by_cases d2:s[k + 1].toNat = 110
        ·rw [if_pos d2] at hS
         have g3:((s[k + 1].toNat:Int) == 110) = true:=by simp;omega
         have hN:=hide ((unhide hI).next hlt c10 c34 _ _ hS (by decide))
         have hz:Hd ((t ++ { data:=#[10] }).size ≤ 4000 ∧ TP s o (k + 2) (f - 1) (L (t ++ { data:=#[10] }))):=by
          have:=unhide hN
          rw [L_append]
          refine ⟨?_,this⟩
          have hl:=this.len
          rw [List.length_append,L_len] at hl
          rw [ByteArray.size_append]
          show t.size + 1 ≤ 4000
          simp at hl
          omega
         clear d1 d2 c34 c10 c92 hS hN
         go_wp2
         go_round
         case rel => exact ⟨k + 2,_,_,by omega,by go_num,rfl,(unhide hz).1,(unhide hz).2⟩
         case measure => simp [intOf];omega
        ·rw [if_neg d2] at hS
         have g3:((s[k + 1].toNat:Int) == 110) = false:=by simp;omega
         have R:=hide (rtx_none ((unhide hI).bad hlt (Or.inr ⟨c34,by rw [hS]⟩)))
         clear d1 d2 c34 c10 c92 hS
         go_wp2
         go_ret3
         exact ⟨ret_val (unhide R).symm,rfl⟩
      ·have e1:((k:Int) + 1 == (s.size:Int)) = true:=by simp;omega
       have R:=hide (rtx_none ((unhide hI).bad hlt (Or.inr ⟨c34,sg_at1 hlt (by omega) c92⟩)))
       clear c34 c10 c92
       go_wp2
       go_ret3
       exact ⟨ret_val (unhide R).symm,rfl⟩
     ·have b3:((s[k].toNat:Int) == 92) = false:=by simp;omega
      have hN:=hide ((unhide hI).next hlt c10 c34 _ _ (sg_at0 hlt c92) (by decide))
      have hz:Hd ((t ++ s.extract k (k + 1)).size ≤ 4000 ∧ TP s o (k + 1) (f - 1) (L (t ++ s.extract k (k + 1)))):=by
       have:=unhide hN
       rw [L_append,L_one s k hlt]
       refine ⟨?_,this⟩
       have hl:=this.len
       rw [List.length_append,L_len] at hl
       have hsz:(s.extract k (k + 1)).size = 1:=by rw [← L_len,L_one s k hlt];rfl
       rw [ByteArray.size_append,hsz]
       simp at hl
       omega
      clear c34 c10 c92 hN
      go_wp2
      go_round
      case rel => exact ⟨k + 1,_,_,by omega,by go_num,rfl,(unhide hz).1,(unhide hz).2⟩
      case measure => simp [intOf];omega
  ·have R:=hide (rtx_none ((unhide hI).stop (by omega)))
   go_wp2
   go_ret3
   exact ⟨ret_val (unhide R).symm,rfl⟩
end Go.Proofs.YtgkdmgndebifiaaGreatDoor
