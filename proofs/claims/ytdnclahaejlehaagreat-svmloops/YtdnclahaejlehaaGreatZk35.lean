/- The small steps of the package ops: how many values an op takes,the tables of functions,what a value is taken for,what stands beside an error. · Laws of no program: an append that tells where the row lies behind it;a call of a function and an append as steps of a region that draws its order;rows of five cells a value. · What a copy of a value is,a text and a list as values: each in memory of its own. · An op of two values,an op of one: the function that stands in the table at its number,of what the values are taken for. · A copy of any value;a value copied as it is taken;a text as a value. -/
import Derived.Test.YtdnclahaejlehaaGreatZk28
import Derived.Laws.Tables
import Derived.Laws.Rows
import Derived.Laws.CopyOwn
import Derived.Test.YtdnclahaejlehaaGreatZk27
import Derived.Deep.RegionLawGrows
import Derived.OwnWalk
import Derived.Test.YtdnclahaejlehaaGreatShelf
set_option linter.unusedSimpArgs false
set_option maxRecDepth 10000
set_option maxHeartbeats 4000000
namespace Go.Proofs.YtdnclahaejlehaaGreat
open Go.RowKit
namespace V
theorem arity_two (op:Int) (w:World) (h1:1≤op) (h2:op≤14):Calls Tryz.prog 114 #[.int .i64 op] w fun e w'=>e = .returned (.int .i64 2)∧w' = w:=by
 go_enter Tryz.func114,Tryz.ntmps114
 go_wp2_with fail
 go_ret;exact⟨rfl,rfl⟩
abbrev fnV (f:FuncId):Value:=.func (.func f) #[] #[]
abbrev binTab:Array Value:=#[.nilFunc,fnV 130,fnV 131,fnV 132,fnV 133,fnV 134,fnV 135,fnV 136,fnV 137,fnV 138,fnV 139,fnV 140,fnV 141,fnV 142,fnV 143]
abbrev nf15:Array Value:=#[.nilFunc,.nilFunc,.nilFunc,.nilFunc,.nilFunc,.nilFunc,.nilFunc,.nilFunc,.nilFunc,.nilFunc,.nilFunc,.nilFunc,.nilFunc,.nilFunc,.nilFunc]
theorem infoB:(Tryz.prog.info? 185).map (·.size)=some binTab.size:=by kernel_rfl
theorem binaries_any (w:World):Calls Tryz.prog 116 #[] w fun e w'=>e = .returned (.agg binTab)∧Ext w w':=by
 go_enter Tryz.func116,Tryz.ntmps116
 go_wp2_with (refine wpList_store_row rfl 185 (.tmp 0) (.tmp 1) rfl w.heap.size binTab ?_ ?_ 185 nf15 ?_ ?_ ?_ ?_ ?_)
 ·rfl
 ·rfl
 ·exact Go.heap_alloc_new w _
 ·exact infoB
 ·rfl
 ·decide +kernel
 ·exact bodyPost_ret (v:=.agg binTab) (results_cell_row Tryz.results116 _ _ w.heap.size 185 binTab (0,0) _ rfl (setRow_heap _ _ nf15 _ _ _ (Go.heap_alloc_new w _)) Tryz.underlying185 rfl infoB) rfl ⟨rfl,below_setRow (Ext.alloc w _) (Nat.le_refl _) _⟩
theorem failed_any (x:Int) (w:World):Calls Tryz.prog 115 #[.int .i64 x] w fun e w'=>e = .returned (.tuple #[nilV,.int .i64 x])∧Ext w w':=by
 go_enter Tryz.func115,Tryz.ntmps115
 go_wp2_with (go_at_call 113;refine Calls.mono (nil_any _) ?_;rintro e w1 ⟨rfl,hw1⟩;have hx0:=hw1.box 0 rfl;have hx1:=hw1.box 1 rfl;have hx2:=hw1.box 2 rfl;have hx3:=hw1.box 3 rfl;have hx4:=hw1.box 4 rfl;have hf:=hw1.boxF)
 have hE:=(Ext.alloc w _).trans hw1;exact bodyPost_ret (v:=.tuple #[nilV,.int .i64 x]) (by simp[results,Tryz.results115,go_sem,hx0,hx1,hx2,hx3,hx4]) rfl ⟨rfl,((((hE.set (by simp) _).set (by simp) _).set (by simp) _).set (by simp) _).set (by simp) _⟩
theorem told_any (b:Bool) (w:World):Calls Tryz.prog 165 #[.bool b] w fun e w'=>e = .returned (.tuple #[.agg #[.int .i64 1,.int .i64 (if b then 1 else 0),.complex .f64 0 0,.string ⟨#[]⟩,.slice none 0 0],.int .i64 0])∧Ext w w':=by
 cases b
 all_goals
  go_enter Tryz.func165,Tryz.ntmps165
  go_wp2_with (go_at_call 120;refine Calls.mono (int_any _ _) ?_;rintro e w1 ⟨rfl,hw1⟩;have hx0:=hw1.box 0 rfl;have hx1:=hw1.box 1 rfl;have hx2:=hw1.box 2 rfl;have hx3:=hw1.box 3 rfl;have hx4:=hw1.box 4 rfl;have hf:=hw1.boxF)
  have hE:=(Ext.alloc w _).trans hw1;exact bodyPost_ret (by simp[results,Tryz.results165,go_sem,hx0,hx1,hx2,hx3,hx4]) rfl ⟨rfl,((((hE.set (by simp) _).set (by simp) _).set (by simp) _).set (by simp) _).set (by simp) _⟩
theorem both_any (kd k n k' n':Int) (re im re' im':Nat) (s s':ByteArray) (a a':Option Addr) (l c l' c':Nat) (w:World) :
  Calls Tryz.prog 156 #[.int .i64 kd,.agg #[.int .i64 k,.int .i64 n,.complex .f64 re im,.string s,.slice a l c],.agg #[.int .i64 k',.int .i64 n',.complex .f64 re' im',.string s',.slice a' l' c']] w
   fun e w'=>e = .returned (.bool (decide (k=kd) && decide (k' = kd)))∧Ext w w':=by
 by_cases h1:k=kd <;> by_cases h2:k' = kd
 all_goals
  first | subst h1 | skip
  first | subst h2 | skip
  go_enter Tryz.func156,Tryz.ntmps156
  go_wp2_with fail
  go_ret;exact⟨ret_bool (by simp[*]),(Ext.alloc _ _).trans (Ext.alloc _ _)⟩
theorem otaken_val (p:PV) (v:Value) (w:World) (hr:Rep w (In w) p v) :
  Calls Tryz.prog 117 #[v] w fun e w'=>e = .returned (if okv p then v else nilV)∧Ext w w':=by
 have hc:=fun w' (h:Ext w w')=>okv_any p v w' (hr.ext h);cases hO:okv p
 ·rw[if_neg (by decide)]
  rw[hO] at hc;clear hO;cases p with
  | mk k n re im s l =>
  rw[Rep] at hr;obtain⟨a,cap,rfl,hb,hl⟩:=hr;have C:=zh hc;clear hc hb hl
  go_enter Tryz.func117,Tryz.ntmps117
  go_wp2_with (first | (go_at_call 107;refine Calls.mono (zu C _ ((Ext.alloc _ _).trans (Ext.alloc _ _))) ?_;rintro e w1 ⟨rfl,hw1⟩) | (go_at_call 113;refine Calls.mono (nil_any _) ?_;rintro e w2 ⟨rfl,hw2⟩;have hw3:=hw1.trans hw2;have hx0:=hw3.box 0 rfl;have hx1:=hw3.box 1 rfl;have hx2:=hw3.box 2 rfl;have hx3:=hw3.box 3 rfl;have hx4:=hw3.box 4 rfl;have hf:=hw3.boxF;simp only[heap_alloc_size] at hx0 hx1 hx2 hx3 hx4 hf))
  refine bodyPost_ret (v:=nilV) (by simp[results,Tryz.results117,go_sem,hx0,hx1,hx2,hx3,hx4]) rfl ⟨rfl,?_⟩;have hE:=((Ext.alloc w _).trans (Ext.alloc _ _)).trans hw3;exact((((hE.set (by simp) _).set (by simp) _).set (by simp) _).set (by simp) _).set (by simp) _
 ·rw[if_pos rfl]
  rw[hO] at hc;clear hO;cases p with
  | mk k n re im s l =>
  rw[Rep] at hr;obtain⟨a,cap,rfl,hb,hl⟩:=hr;have C:=zh hc;clear hc hb hl
  go_enter Tryz.func117,Tryz.ntmps117
  go_wp2_with (go_at_call 107;refine Calls.mono (zu C _ ((Ext.alloc _ _).trans (Ext.alloc _ _))) ?_;rintro e w1 ⟨rfl,hw1⟩;have hx0:=hw1.box 0 rfl;have hx1:=hw1.box 1 rfl;have hx2:=hw1.box 2 rfl;have hx3:=hw1.box 3 rfl;have hx4:=hw1.box 4 rfl;have hf:=hw1.boxF;have hy:=(Ext.alloc _ _).trans hw1;have hy0:=hy.box 0 rfl;have hy1:=hy.box 1 rfl;have hy2:=hy.box 2 rfl;have hy3:=hy.box 3 rfl;have hy4:=hy.box 4 rfl;simp only[heap_alloc_size] at hx0 hx1 hx2 hx3 hx4 hf)
  have hE:=(Ext.alloc w _).trans hy;have hE:=((((hE.set (a:=⟨w.heap.size+1,0,none⟩) (by simp) (.int .i64 k)).set (a:=⟨w.heap.size+1,1,none⟩) (by simp) (.int .i64 n)).set (a:=⟨w.heap.size+1,2,none⟩) (by simp) (.complex .f64 re im)).set (a:=⟨w.heap.size+1,3,none⟩) (by simp) (.string s)).set (a:=⟨w.heap.size+1,4,none⟩) (by simp) (.slice a l.length cap);exact bodyPost_ret (v:=.agg #[.int .i64 k,.int .i64 n,.complex .f64 re im,.string s,.slice a l.length cap]) (by simp[results,Tryz.results117,go_sem,hx0,hx1,hx2,hx3,hx4]) rfl ⟨rfl,hE⟩
end V
namespace V
section
variable {P:Program} {w:World}
theorem run_append_where (base:Nat) (t ty e:TypeId) (i:TypeInfo) (z:Value) (size bytes:Nat) (ht:P.underlying t=some (.slice e)) (hi:P.info? e=some i) (hz:i.zero=some z)
  (hsize:i.size=size) (hby:i.bytes=bytes) (hzs:z.cells.size=size) (hsz:0 < size)
  (ao:Option Addr) (n cap:Nat) (xs:List Value) (hown:w.ownsRow base e size (.slice ao n cap) n xs)
  (a:Addr) (m c:Nat) (news:List Value) (hm:0 < m) (hl:news.length=m * size) (hnews:∀ j u,news[j]? = some u→w.cell? (a.add j)=some u) (h1:∀ u ∈ news,u.oneCell' = true)
  (h63:n+m≤maxLen) (hbytes:(n+m) * bytes≤140737488355328) (hbase:base≤w.heap.size) :
  ∃ g' cap' w',(Builtin.append_ #[t,t] ty #[.slice ao n cap,.slice (some a) m c]).run P w = .ok (.slice (some ⟨g',0,none⟩) (n+m) cap') w'∧w'.ownsRow base e size (.slice (some ⟨g',0,none⟩) (n+m) cap') (n+m) (xs++news) ∧
   w.grownBy w' (Value.slice ao n cap).ownBlock∧((Value.slice ao n cap).ownBlock=some g'∨w.heap.size≤g'):=by
 obtain⟨v',w',hrun,ho,hg,_⟩:=run_append_own (P:=P) w base t ty e i z size bytes ht hi hz hsize hby hzs hsz (.slice ao n cap) n xs hown a m c news hl hnews h1 h63 hbytes hbase;have hv:∃ g' cap',v' = .slice (some ⟨g',0,none⟩) (n+m) cap':=by
  rcases ho.2 with⟨_,h0⟩ | ⟨g',cap',cur,hv,_⟩
  ·omega
  ·exact⟨g',cap',hv⟩
 obtain⟨g',cap',rfl⟩:=hv;refine⟨g',cap',w',hrun,ho,hg,?_⟩;rcases hown.2 with⟨hn,h0⟩ | ⟨g,cap2,cur,hn,hb,hgg,hnc,hcm,hcs,htake⟩
 ·injection hn with e1 e2 e3
  subst e1 e2 e3;obtain⟨v2,w2,hrun2,ho2,_⟩:=run_append_own (P:=P) w w.heap.size t ty e i z size bytes ht hi hz hsize hby hzs hsz (.slice none 0 0) 0 [] (World.ownsRow_nil w _ e size) a m c news hl hnews h1 h63 hbytes (Nat.le_refl _);rw[hrun] at hrun2;injection hrun2 with e1 e2;subst e1;have:=ho2.lt g' rfl;exact Or.inr this.1
 ·injection hn with e1 e2 e3
  subst e1 e3;by_cases hr:n+m≤cap
  ·subst hsize
   have hrun2:=run_append_room (P:=P) w t ty e i ht hi g n cap cur hgg a m c news hl hnews h1 hr (by rw[hl,← Nat.add_mul,hcs];exact Nat.mul_le_mul_right _ hr);rw[hrun] at hrun2;injection hrun2 with e1 e2;injection e1 with e1 _ _;injection e1 with e1;injection e1 with e1;subst e1;exact Or.inl rfl
  ·obtain⟨v2,w2,hrun2,ho2,_⟩:=run_append_arg_grows (P:=P) w t ty e i z size bytes ht hi hz hsize hby hzs hsz ⟨g,0,none⟩ n cap xs hown.1 (hown.cells rfl) a m c news hl hnews (by omega) h63 hbytes
   rw[hrun] at hrun2;injection hrun2 with e1 e2;subst e1;have:=ho2.lt g' rfl;exact Or.inr this.1
theorem step_append_where {ops:Array Oper} {o:Oper} {a:Act} {K:Act→World→Prop} {Q:Exit→Act→World→Prop} {E:Prop}
  (hg:o.guard=none) (s x:Operand) (t:TypeId) (hop:o.op=Op.call { callee:=Callee.builtin Builtin.append,args:=#[s,x],argTypes:=#[t,t] })
  (base:Nat) (e:TypeId) (i:TypeInfo) (z:Value) (size bytes:Nat) (ht:P.underlying t=some (.slice e)) (hi:P.info? e=some i) (hz:i.zero=some z)
  (hsize:i.size=size) (hby:i.bytes=bytes) (hzs:z.cells.size=size) (hsz:0 < size)
  (ao:Option Addr) (n cap:Nat) (xs:List Value) (hs:a.eval s = .slice ao n cap) (hown:w.ownsRow base e size (.slice ao n cap) n xs)
  (ad:Addr) (m c:Nat) (news:List Value) (hx:a.eval x = .slice (some ad) m c) (hm:0 < m) (hl:news.length=m * size) (hnews:∀ j u,news[j]? = some u→w.cell? (ad.add j)=some u) (h1:∀ u ∈ news,u.oneCell' = true)
  (h63:n+m≤maxLen) (hbytes:(n+m) * bytes≤140737488355328) (hbase:base≤w.heap.size)
  (hK:∀ g' cap' w',w'.ownsRow base e size (.slice (some ⟨g',0,none⟩) (n+m) cap') (n+m) (xs++news)→w.grownBy w' (Value.slice ao n cap).ownBlock→((Value.slice ao n cap).ownBlock=some g'∨w.heap.size≤g')→K (a.put o.dst (.slice (some ⟨g',0,none⟩) (n+m) cap')) w') :
  if Region.wanted o (yielded ops a.tmps)=true then Oper.wp P o a w K Q else E:=by
 have hw:Region.wanted o (yielded ops a.tmps)=true:=by simp[Region.wanted,hg]
 rw[if_pos hw];obtain⟨g',cap',w',hrun,r1,r2,r3⟩:=run_append_where (P:=P) (w:=w) base t o.type e i z size bytes ht hi hz hsize hby hzs hsz ao n cap xs hown ad m c news hm hl hnews h1 h63 hbytes hbase;unfold Oper.wp;simp[execOp,hop,resolve,invoke,builtin,hs,hx,hrun,Result.andThen];exact hK g' cap' w' r1 r2 r3
theorem wpList_append_where {ops:Array Oper} {rest:List Oper} {o:Oper} {a:Act} {Q:Exit→Act→World→Prop} (hgd:o.guard=none) (s x:Operand) (t:TypeId)
  (hop:o.op = .call { callee:=.builtin .append,args:=#[s,x],argTypes:=#[t,t] })
  (base:Nat) (e:TypeId) (i:TypeInfo) (z:Value) (size bytes:Nat) (ht:P.underlying t=some (.slice e)) (hi:P.info? e=some i) (hz:i.zero=some z)
  (hsize:i.size=size) (hby:i.bytes=bytes) (hzs:z.cells.size=size) (hsz:0 < size)
  (ao:Option Addr) (n cap:Nat) (xs:List Value) (hs:a.eval s = .slice ao n cap) (hown:w.ownsRow base e size (.slice ao n cap) n xs)
  (ad:Addr) (m c:Nat) (news:List Value) (hx:a.eval x = .slice (some ad) m c) (hm:0 < m) (hl:news.length=m * size) (hnews:∀ j u,news[j]? = some u→w.cell? (ad.add j)=some u) (h1:∀ u ∈ news,u.oneCell' = true)
  (h63:n+m≤maxLen) (hbytes:(n+m) * bytes≤140737488355328) (hbase:base≤w.heap.size)
  (h:∀ g' cap' w',w'.ownsRow base e size (.slice (some ⟨g',0,none⟩) (n+m) cap') (n+m) (xs++news)→w.grownBy w' (Value.slice ao n cap).ownBlock→((Value.slice ao n cap).ownBlock=some g'∨w.heap.size≤g')→wpList P ops Q rest (a.put o.dst (.slice (some ⟨g',0,none⟩) (n+m) cap')) w'):wpList P ops Q (o :: rest) a w:=by
 refine wpList_plain hgd fun K hK => ?_;obtain⟨g',cap',w',hrun,r1,r2,r3⟩:=run_append_where (P:=P) (w:=w) base t o.type e i z size bytes ht hi hz hsize hby hzs hsz ao n cap xs hown ad m c news hm hl hnews h1 h63 hbytes hbase;unfold Oper.wp;simp[execOp,hop,resolve,invoke,builtin,hs,hx,hrun,Result.andThen];exact hK _ _ (h g' cap' w' r1 r2 r3)
theorem step_call_one {ops:Array Oper} {o:Oper} {a:Act} {K:Act→World→Prop} {Q:Exit→Act→World→Prop} {E:Prop}
  (hg:o.guard=none) (f:FuncId) (x:Operand) (t:TypeId) (hop:o.op=Op.call { callee:=Callee.value (.func f),args:=#[x],argTypes:=#[t] })
  (v:Value) (hx:a.eval x=v) (hf:(callFunc f #[v]).run P w = .ok (.enter f #[v]) w) (hK:Calls P f #[v] w fun e w' => ∃ u,e = .returned u∧K (a.put o.dst u) w') :
  if Region.wanted o (yielded ops a.tmps)=true then Oper.wp P o a w K Q else E:=by
 have hw:Region.wanted o (yielded ops a.tmps)=true:=by simp[Region.wanted,hg]
 rw[if_pos hw];have he:a.eval (.func f) = .func (.func f) #[] #[]:=rfl;unfold Oper.wp;have hrun:(execOp a.eval o).run P w = .ok (.enter f #[v]) w:=by
  simp[execOp,hop,resolve,invoke,hx,he,Result.andThen,Deferred.ofValue,hf]
 rw[hrun,Oper.upon_enter];refine hK.mono ?_;rintro e w' ⟨u,rfl,h⟩;exact h
end
/-! ### Rows of five cells a value -/
/-- The cells xs hold the values ps,one behind the other. -/
def Row5 (w:World) (F:Nat→Prop):List PV→List Value→Prop
 | [],xs=>xs = []
 | p :: ps,xs => ∃ a cap rest,xs = [.int .i64 p.k,.int .i64 p.n,.complex .f64 p.re p.im,.string p.s,.slice a p.l.length cap]++rest∧Bd p.k p.n p.re p.im p.s p.l.length cap∧RepL w F p.l a∧Row5 w F ps rest
theorem Row5.to {w w':World} {F F':Nat→Prop} (h:∀ b,F b→F' b∧w'.heap[b]? = w.heap[b]?):∀ {ps:List PV} {xs:List Value},Row5 w F ps xs→Row5 w' F' ps xs:=by
 intro ps
 induction ps with
 | nil=>intro xs hx;exact hx
 | cons p ps ih =>
  intro xs hx;obtain⟨a,cap,rest,e,hb,hl,hr⟩:=hx;exact⟨a,cap,rest,e,hb,RepL.to h _ _ hl,ih hr⟩
theorem Row5.snoc {w:World} {F:Nat→Prop} {p:PV} {a:Option Addr} {cap:Nat} (hb:Bd p.k p.n p.re p.im p.s p.l.length cap) (hl:RepL w F p.l a) :
  ∀ {ps:List PV} {xs:List Value},Row5 w F ps xs→Row5 w F (ps++[p]) (xs++[.int .i64 p.k,.int .i64 p.n,.complex .f64 p.re p.im,.string p.s,.slice a p.l.length cap]):=by
 intro ps
 induction ps with
 | nil =>
  intro xs hx;have:xs = []:=hx;subst this;exact⟨a,cap,[],by simp,hb,hl,rfl⟩
 | cons q ps ih =>
  intro xs hx;obtain⟨a',cap',rest,e,hb',hl',hr⟩:=hx;exact⟨a',cap',rest++_,by rw[e];simp,hb',hl',ih hr⟩
theorem Row5.repL {w:World} {F:Nat→Prop} {g:Nat} (hF:F g):∀ {ps:List PV} {xs:List Value} {off:Nat},Row5 w F ps xs→(∀ j u,xs[j]? = some u→w.cell? ⟨g,off+j,none⟩=some u)→RepL w F ps (some ⟨g,off,none⟩):=by
 intro ps
 induction ps with
 | nil=>intro xs off _ _;simp[RepL]
 | cons p ps ih =>
  intro xs off hx hc;obtain⟨a,cap,rest,e,hb,hl,hr⟩:=hx;subst e;refine RepL.cons ⟨hF,by simpa using hc 0 _ rfl,hc 1 _ rfl,hc 2 _ rfl,hc 3 _ rfl,hc 4 _ rfl,hb,hl⟩ (ih hr fun j u hu => ?_);have:=hc (5+j) u (by rw[List.getElem?_append_right (by simp)];simpa using hu);rw[Nat.add_assoc];exact this
theorem cells_own {w:World} {base:Nat} {e:TypeId} {size n cap g:Nat} {xs:List Value} (h:w.ownsRow base e size (.slice (some ⟨g,0,none⟩) n cap) n xs):∀ j u,xs[j]? = some u→w.cell? ⟨g,0+j,none⟩=some u:=by
 intro j u hu;have:=h.cells (g:=g) rfl j u hu;have hadd:(⟨g,0,none⟩:Addr).add j=⟨g,0+j,none⟩:=by unfold Addr.add;split <;> simp_all
 rw[hadd] at this;exact this
end V
namespace V
theorem infoV:(Tryz.prog.info? 33).map (fun i=>(i.zero,i.size,i.bytes))=some (some nilV,5,72):=by kernel_rfl
theorem clone_any (s:ByteArray) (w:World) (hs:s.size≤140737488355328) :
  Calls Tryz.prog 121 #[.string s] w fun e w'=>e = .returned (.string s)∧Ext w w':=by
 have hc:=fun w=>Tryz.stringslite_Clone s w (by omega);have C:=zh hc;clear hc
 go_enter Tryz.func121,Tryz.ntmps121
 go_wp2_with (go_at_call 150;refine Calls.mono (zu C _) ?_;rintro e w' ⟨rfl,hw⟩)
 go_ret;exact⟨rfl,hw⟩
mutual
/-- What a copy keeps of a value: what its kind uses. -/
def norm:PV→PV
 | .mk k n re im s l=>if k=1 then .mk 1 n 0 0 ⟨#[]⟩ [] else if k=2 then .mk 2 0 re im ⟨#[]⟩ [] else if k=3 then .mk 3 0 0 0 s [] else if k=4 then .mk 4 0 0 0 ⟨#[]⟩ (normL l) else nilP
def normL:List PV→List PV
 | [] => []
 | x :: xs=>norm x :: normL xs
end
theorem normL_map:∀ l,normL l=l.map norm
 | []=>rfl
 | x :: xs=>by rw[normL,normL_map xs];rfl
def Fresh (w w':World):Nat→Prop:=fun b=>w.heap.size≤b∧b < w'.heap.size
theorem zr {w:World} {g:Nat} {cs:Array Value} {t:TypeId} (h:w.heap[g]? = some (.cells cs t (0,0))) (i:Nat) {v:Value} (hi:cs[i]? = some v):w.cell? ⟨g,i,none⟩=some v:=by
 rw[cell_of_row w g i cs t (0,0) h];exact hi
theorem rowF {w:World} {g:Nat} {cs:Array Value} {t:TypeId} (h:w.heap[g]? = some (.cells cs t (0,0))) (i:Nat):w.frozen? ⟨g,i,none⟩=false:=by
 simp[World.frozen?,h]
theorem Ext.row {w w':World} (h:Ext w w') {g:Nat} {o:Obj} (hg:w.heap[g]? = some o):w'.heap[g]? = some o:=by
 rw[h.block g (Array.getElem?_eq_some_iff.1 hg).1];exact hg
theorem row_set {w:World} {g:Nat} {cs:Array Value} {t:TypeId} (h:w.heap[g]? = some (.cells cs t (0,0))) (i:Nat) (v:Value):(w.setCell ⟨g,i,none⟩ v).heap[g]? = some (.cells (cs.setIfInBounds i v) t (0,0)):=by
 simp[World.setCell,Array.getElem?_modify,h]
theorem grown_row {w w':World} {r:Option Nat} (h:w.grownBy w' r) {g:Nat} {o:Obj} (hg:w.heap[g]? = some o) (hne:some g≠r):w'.heap[g]? = some o:=by
 rw[h.block g (Array.getElem?_eq_some_iff.1 hg).1 hne];exact hg
structure Mid (w wr:World) (ps:List PV) (ao:Option Addr) (cap:Nat):Prop where
 ext:Ext w wr
 r1:wr.heap[w.heap.size+1]? = some (.cells #[.int .i64 0,.int .i64 0,.complex .f64 0 0,.string ⟨#[]⟩,.slice none 0 0] 33 (0,0))
 r2:wr.heap[w.heap.size+2]? = some (.cells #[.int .i64 4,.int .i64 0,.complex .f64 0 0,.string ⟨#[]⟩,.slice ao ps.length cap] 33 (0,0))
 own:∃ xs,wr.ownsRow (w.heap.size+3) 33 5 (.slice ao ps.length cap) ps.length xs∧Row5 wr (fun b=>w.heap.size+3≤b∧b < wr.heap.size∧some b≠(Value.slice ao ps.length cap).ownBlock) ps xs
theorem Mid.start (w:World) (cs:Array Value):Mid w (((w.alloc (.cells cs 33)).alloc (.cells #[.int .i64 0,.int .i64 0,.complex .f64 0 0,.string ⟨#[]⟩,.slice none 0 0] 33)).alloc (.cells #[.int .i64 4,.int .i64 0,.complex .f64 0 0,.string ⟨#[]⟩,.slice none 0 0] 33)) [] none 0:=by
 refine⟨((Ext.alloc _ _).trans (Ext.alloc _ _)).trans (Ext.alloc _ _),?_,?_,[],World.ownsRow_nil _ _ _ _,rfl⟩
 ·have:=(Ext.alloc ((w.alloc (.cells cs 33)).alloc (.cells #[.int .i64 0,.int .i64 0,.complex .f64 0 0,.string ⟨#[]⟩,.slice none 0 0] 33)) (.cells #[.int .i64 4,.int .i64 0,.complex .f64 0 0,.string ⟨#[]⟩,.slice none 0 0] 33)).row (Go.heap_alloc_new (w.alloc (.cells cs 33)) (.cells #[.int .i64 0,.int .i64 0,.complex .f64 0 0,.string ⟨#[]⟩,.slice none 0 0] 33))
  simpa only [heap_alloc_size] using this
 ·have:=Go.heap_alloc_new ((w.alloc (.cells cs 33)).alloc (.cells #[.int .i64 0,.int .i64 0,.complex .f64 0 0,.string ⟨#[]⟩,.slice none 0 0] 33)) (.cells #[.int .i64 4,.int .i64 0,.complex .f64 0 0,.string ⟨#[]⟩,.slice none 0 0] 33)
  rw[heap_alloc_size,heap_alloc_size] at this;exact this
theorem Mid.on {w wr w2:World} {ps:List PV} {ao:Option Addr} {cap:Nat} (h:Mid w wr ps ao cap) (he:Ext wr w2):Mid w w2 ps ao cap:=by
 obtain⟨xs,ho,hr⟩:=h.own;have hb:∀ b,b < wr.heap.size→w2.heap[b]? = wr.heap[b]?:=he.block;refine⟨h.ext.trans he,he.row h.r1,he.row h.r2,xs,⟨ho.1,?_⟩,Row5.to (fun b hb=>⟨⟨hb.1,Nat.lt_of_lt_of_le hb.2.1 he.le,hb.2.2⟩,he.block b hb.2.1⟩) hr⟩;rcases ho.2 with h0 | ⟨g,c2,cur,e,hbase,hg,rest⟩
 ·exact Or.inl h0
 ·exact Or.inr ⟨g,c2,cur,e,hbase,he.row hg,rest⟩
theorem Mid.snoc {w w2 w3:World} {ps:List PV} {ao:Option Addr} {cap g' cap':Nat} {p:PV} {a:Option Addr} {c:Nat} {xs:List Value}
  (h:Mid w w2 ps ao cap) (ho:w3.ownsRow (w.heap.size+3) 33 5 (.slice (some ⟨g',0,none⟩) (ps.length+1) cap') (ps.length+1) (xs++[.int .i64 p.k,.int .i64 p.n,.complex .f64 p.re p.im,.string p.s,.slice a p.l.length c]))
  (hx:Row5 w2 (fun b=>w.heap.size+3≤b∧b < w2.heap.size∧some b≠(Value.slice ao ps.length cap).ownBlock) ps xs)
  (hb:Bd p.k p.n p.re p.im p.s p.l.length c) (hp:RepL w2 (fun b=>w.heap.size+3≤b∧b < w2.heap.size∧some b≠(Value.slice ao ps.length cap).ownBlock) p.l a)
  (hg:w2.grownBy w3 (Value.slice ao ps.length cap).ownBlock) (hw:(Value.slice ao ps.length cap).ownBlock=some g'∨w2.heap.size≤g') :
  Mid w (w3.setCell ⟨w.heap.size+2,4,none⟩ (.slice (some ⟨g',0,none⟩) (ps.length+1) cap')) (ps++[p]) (some ⟨g',0,none⟩) cap':=by
 have hlt:=h.ext.le;have h2:w.heap.size+2 < w2.heap.size:=(Array.getElem?_eq_some_iff.1 h.r2).1;have hob:∀ g,(Value.slice ao ps.length cap).ownBlock=some g→w.heap.size+3≤g:=by
  obtain⟨ys,hy,_⟩:=h.own;intro g e;exact(hy.lt g e).1
 have hg3:w.heap.size+3≤g':=by
  rcases hw with e | e
  ·exact hob _ e
  ·omega
 have hne:∀ g,g < w.heap.size+3→some g≠(Value.slice ao ps.length cap).ownBlock:=by
  intro g hl e;have:=hob g e.symm;omega
 have hset:∀ b,b≠w.heap.size+2→(w3.setCell ⟨w.heap.size+2,4,none⟩ (.slice (some ⟨g',0,none⟩) (ps.length+1) cap')).heap[b]? = w3.heap[b]?:=fun b hb=>Below.heap_setCell _ _ _ _ hb;have hsize:(w3.setCell ⟨w.heap.size+2,4,none⟩ (.slice (some ⟨g',0,none⟩) (ps.length+1) cap')).heap.size=w3.heap.size:=by simp[World.setCell]
 have hF:∀ b,(w.heap.size+3≤b∧b < w2.heap.size∧some b≠(Value.slice ao ps.length cap).ownBlock) →
   (w.heap.size+3≤b∧b < (w3.setCell ⟨w.heap.size+2,4,none⟩ (.slice (some ⟨g',0,none⟩) (ps.length+1) cap')).heap.size∧some b≠(Value.slice (some ⟨g',0,none⟩) (ps++[p]).length cap').ownBlock) ∧
   (w3.setCell ⟨w.heap.size+2,4,none⟩ (.slice (some ⟨g',0,none⟩) (ps.length+1) cap')).heap[b]? = w2.heap[b]?:=by
  intro b hb;refine⟨⟨hb.1,by rw[hsize];exact Nat.lt_of_lt_of_le hb.2.1 hg.size,?_⟩,?_⟩
  ·intro e
   simp only[Value.ownBlock,Option.some.injEq] at e;rcases hw with e2 | e2
   ·exact hb.2.2 (by rw[e2,e])
   ·omega
  ·rw[hset b (by omega)]
   exact hg.block b hb.2.1 hb.2.2
 have hlen:(ps++[p]).length=ps.length+1:=by simp
 refine⟨?_,?_,?_,_,?_,Row5.snoc hb (RepL.to hF _ _ hp) (Row5.to hF hx)⟩
 ·have hE:Ext w w3:=Below.grown h.ext hg hlt (fun k e=>by have:=hob k e;omega)
  exact hE.set (by simp) _
 ·rw[hset _ (by omega)]
  exact grown_row hg h.r1 (hne _ (by omega))
 ·rw[row_set (grown_row hg h.r2 (hne _ (by omega))),hlen]
  rfl
 ·rw[hlen]
  refine⟨ho.1,?_⟩;rcases ho.2 with⟨e,_⟩ | ⟨g,c2,cur,e,hbase,hgg,rest⟩
  ·cases e
  ·refine Or.inr ⟨g,c2,cur,e,hbase,?_,rest⟩
   injection e with e1 _ _;injection e1 with e1;injection e1 with e1;subst e1;rw[hset _ (by omega)];exact hgg
theorem own_ext {w w':World} {base:Nat} {e:TypeId} {size:Nat} {v:Value} {n:Nat} {xs:List Value} (h:w.ownsRow base e size v n xs) (he:Ext w w'):w'.ownsRow base e size v n xs:=by
 refine⟨h.1,?_⟩;rcases h.2 with h0 | ⟨g,c2,cur,e1,hbase,hg,rest⟩
 ·exact Or.inl h0
 ·exact Or.inr ⟨g,c2,cur,e1,hbase,he.row hg,rest⟩
theorem add0 (g j:Nat):(⟨g,0,none⟩:Addr).add j=⟨g,j,none⟩:=by unfold Addr.add;split <;> simp_all
theorem cells_new (w:World) (cs:Array Value) (t:TypeId):∀ j u,cs.toList[j]? = some u→(w.alloc (.cells cs t)).cell? ((⟨w.heap.size,0,none⟩:Addr).add j)=some u:=by
 intro j u hu;rw[add0];exact cell_box w cs t j (by simpa using hu)
theorem enterCopied (v:Value) (w:World):(callFunc 100 #[v]).run Tryz.prog w = .ok (.enter 100 #[v]) w:=by kernel_rfl
theorem Mid.done {w wr:World} {ps:List PV} {ao:Option Addr} {c:Nat} (h:Mid w wr ps ao c):RepL wr (fun b=>w.heap.size+3≤b∧b < wr.heap.size) ps ao∧ps.length≤c:=by
 obtain⟨xs,ho,hr⟩:=h.own;rcases ho.2 with⟨e,h0⟩ | ⟨g,c2,cur,e,hbase,hg,hle,_⟩
 ·have:ps = []:=List.eq_nil_of_length_eq_zero h0
  subst this;exact⟨by simp[RepL],by simp⟩
 ·injection e with e1 e2 e3
  subst e1 e3;refine⟨Row5.repL (g:=g) ⟨hbase,(Array.getElem?_eq_some_iff.1 hg).1⟩ (Row5.to (fun b hb=>⟨⟨hb.1,hb.2.1⟩,rfl⟩) hr) (cells_own ho),hle⟩
theorem copied_four (n:Int) (re im:Nat) (s:ByteArray) (l:List PV)
  (ih:∀ x ∈ l,∀ (v:Value) (w:World),Rep w (In w) x v→Calls Tryz.prog 100 #[v] w fun e w' => ∃ v',e = .returned v'∧Rep w' (Fresh w w') (norm x) v'∧Ext w w')
  (v:Value) (w:World) (hr:Rep w (In w) (.mk 4 n re im s l) v) :
  Calls Tryz.prog 100 #[v] w fun e w' => ∃ v',e = .returned v'∧Rep w' (Fresh w w') (norm (.mk 4 n re im s l)) v'∧Ext w w':=by
 rw[Rep] at hr;obtain⟨a,cap,rfl,hb,hl⟩:=hr;have h72:=hb.b72;have h1:=hb.bl;have h2:=hb.bc;have H:=zh hl;have I:=zh ih;clear hl ih hb
 go_enter Tryz.func100,Tryz.ntmps100
 go_wp2_with fail
 go_loopw [30] (fun i wr => ∃ (j:Nat) (ao:Option Addr) (c:Nat),i = .int .i64 j∧j≤l.length∧Hd (Mid w wr ((l.take j).map norm) ao c)) (fun i _=>l.length - (intOf i).toNat)
 case atStart=>exact⟨0,none,0,rfl,by omega,Mid.start w _⟩
 case round =>
  obtain⟨j,ao,c,rfl,hj,hM⟩:=hrel;by_cases hlt:j < l.length
  ·obtain⟨x,hx⟩:∃ x,l[j]? = some x:=⟨l[j],List.getElem?_eq_getElem hlt⟩
   have hM':=zu hM;obtain⟨b,off,a',cap',rfl,hEl⟩:=RepL.get (RepL.ext (zu H) hM'.ext) j x hx;have h0:=hEl.c0;have h1:=hEl.c1;have h2:=hEl.c2;have h3:=hEl.c3;have h4:=hEl.c4;have hpl:((l.take j).map norm).length=j:=by simp;omega
   obtain⟨xs,ho,hrow⟩:=hM'.own;rw[hpl] at ho;have O:=zh ho;have ROW:=zh hrow;have NE:Hd (some (w.heap.size+2)≠(Value.slice ao j c).ownBlock):=fun e=>by have:=ho.lt _ e.symm;omega
   obtain⟨q,hq⟩:∃ q,q=norm x:=⟨_,rfl⟩;have hc:=zu I x (List.mem_of_getElem? hx) _ (wr.alloc (.cells #[.int .i64 x.k,.int .i64 x.n,.complex .f64 x.re x.im,.string x.s,.slice a' x.l.length cap'] 33)).drew (hEl.rep.ext (Ext.drew (Ext.alloc _ _)));rw[← hq] at hc;have C:=zh hc;have hr2:=hM'.r2;rw[hpl] at hr2;have hy4:=zr hr2 4 rfl;have hlt2:w.heap.size+2 < wr.heap.size:=(Array.getElem?_eq_some_iff.1 hr2).1;have hE1:Ext wr (wr.alloc (.cells #[.int .i64 x.k,.int .i64 x.n,.complex .f64 x.re x.im,.string x.s,.slice a' x.l.length cap'] 33)).drew:=Ext.drew (Ext.alloc _ _);have HE:=zh hE1;have R2:=zh hr2;have Q:=zh hq;have X:=zh hx;obtain⟨i0,hi,hz0,hz1,hz2⟩:=info_parts infoV;have HI:=zh hi;have Z0:=zh hz0;have Z1:=zh hz1;have Z2:=zh hz2;clear hEl hc ho hrow hM' hr2 hE1 hq hx hpl hi hz0 hz1 hz2;cases q with
   | mk k' n' re' im' s' l' =>
   go_wp2_with fail
   go_region_law (first
    | (refine step_call_one rfl 100 (.tmp 36) 33 rfl _ (by simp[Act.eval,Act.put]) (enterCopied _ _) (Calls.mono (zu C) ?_);rintro e w2 ⟨v2,rfl,hr2,hw2⟩;rw[Rep] at hr2;obtain⟨a2,c2,rfl,hb2,hl2⟩:=hr2;have hE2:=zh ((zu HE).trans hw2);have hrow2:=(zu hE2).row (zu R2);have hy5:=zr hrow2 4 rfl;have hlt3:w.heap.size+2 < w2.heap.size:=(Array.getElem?_eq_some_iff.1 hrow2).1;have B2:=zh hb2;have L2:=zh hl2;have RW2:=zh hrow2;have W2:=zh hw2;clear hb2 hl2 hrow2 hw2;refine⟨_,rfl,?_⟩)
    | (refine step_append_where rfl (.tmp 35) (.tmp 38) 31 rfl (w.heap.size+3) 33 i0 nilV 5 72 Tryz.underlying31 (zu HI) (zu Z0) (zu Z1) (zu Z2) rfl (by decide) ao j c xs (by simp[Act.eval,Act.put]) ((own_ext (zu O) (zu hE2)).alloc _) ⟨w2.heap.size,0,none⟩ 1 1 [.int .i64 k',.int .i64 n',.complex .f64 re' im',.string s',.slice a2 l'.length c2] (by simp[Act.eval,Act.put]) (by decide) rfl (cells_new w2 #[.int .i64 k',.int .i64 n',.complex .f64 re' im',.string s',.slice a2 l'.length c2] 33) (by simp[Value.oneCell']) (by simp only[maxLen];omega) (by omega) (by simp;omega) ?_;intro g' cap2 w3 ho3 hg3 hw3;have hz:=grown_row hg3 ((Ext.alloc w2 _).row (zu RW2)) (zu NE);have hz4:=zr hz 4 rfl;have hzf:=rowF hz 4;clear hz;have G:=zh (⟨ho3,hg3,hw3⟩:_∧_∧_);clear ho3 hg3 hw3))
   all_goals
    go_wp2_with fail
    go_roundw
    case rel =>
     refine⟨j+1,some ⟨g',0,none⟩,cap2,by go_num,by omega,?_⟩;obtain⟨ho3,hg3,hw3⟩:=zu G;have hE3:=(zu hE2).trans (Ext.alloc w2 (.cells #[.int .i64 k',.int .i64 n',.complex .f64 re' im',.string s',.slice a2 l'.length c2] 33));have hM3:=(zu hM).on hE3;have htk:(l.take (j+1)).map norm=(l.take j).map norm++[PV.mk k' n' re' im' s' l']:=by
      obtain⟨hj2,hx2⟩:=List.getElem?_eq_some_iff.1 (zu X);rw[List.take_succ_eq_append_getElem hj2,List.map_append,hx2];simp[zu Q]
     have hpl:((l.take j).map norm).length=j:=by simp;omega
     have hrow:=zu ROW;have hO:=zu O;have hw2:=zu W2;have hL2:=zu L2;show Mid _ _ _ _ _;rw[htk];obtain⟨ps,hps⟩:∃ ps,ps=(l.take j).map norm:=⟨_,rfl⟩;rw[← hps] at hpl hM3 hrow ⊢;clear hps htk;subst hpl;refine Mid.snoc (p:=PV.mk k' n' re' im' s' l') hM3 ho3 (Row5.to (fun b hb=>⟨⟨hb.1,Nat.lt_of_lt_of_le hb.2.1 hE3.le,hb.2.2⟩,hE3.block b hb.2.1⟩) hrow) (zu B2) (RepL.to (fun b hb=>⟨⟨?fa,?fb,?fc⟩,?fd⟩) _ _ hL2) hg3 hw3
     case fa =>
      have h1:=hb.1;have h2:wr.heap.size+1≤b:=by simpa [World.drew] using h1
      omega
     case fb =>
      have h2:=hb.2;simp;omega
     case fc =>
      intro e;have h1:wr.heap.size+1≤b:=by simpa [World.drew] using hb.1
      have:=hO.lt b e.symm;omega
     case fd=>exact(Ext.alloc w2 _).block b hb.2
    case measure=>simp[intOf];omega
  ·have:j=l.length:=by omega
   subst this;have hr1:=(zu hM).r1;have hr2:=(zu hM).r2;have hx0:=zr hr1 0 rfl;have hx1:=zr hr1 1 rfl;have hx2:=zr hr1 2 rfl;have hx3:=zr hr1 3 rfl;have hx4:=zr hr1 4 rfl;have hf:=rowF hr1;have hy0:=zr hr2 0 rfl;have hy1:=zr hr2 1 rfl;have hy2:=zr hr2 2 rfl;have hy3:=zr hr2 3 rfl;have hy4:=zr hr2 4 rfl;clear hr1 hr2
   go_wp2_with fail
   have hM':=zu hM;rw[List.take_of_length_le (Nat.le_refl _)] at hM';obtain⟨hL,hcap⟩:=hM'.done;have hE:=(((((hM'.ext.set (a:=⟨w.heap.size+1,0,none⟩) (by simp) (.int .i64 4)).set (a:=⟨w.heap.size+1,1,none⟩) (by simp) (.int .i64 0)).set (a:=⟨w.heap.size+1,2,none⟩) (by simp) (.complex .f64 0 0)).set (a:=⟨w.heap.size+1,3,none⟩) (by simp) (.string ⟨#[]⟩)).set (a:=⟨w.heap.size+1,4,none⟩) (by simp) (.slice ao l.length c));refine bodyPost_ret (v:=.agg #[.int .i64 4,.int .i64 0,.complex .f64 0 0,.string ⟨#[]⟩,.slice ao l.length c]) (by simp[results,Tryz.results100,go_sem,hx0,hx1,hx2,hx3,hx4]) rfl ⟨_,rfl,?_,hE⟩;rw[norm,if_neg (by decide),if_neg (by decide),if_neg (by decide),if_pos rfl,normL_map,Rep]
   refine⟨ao,c,by simp,⟨by decide,by decide,by decide,by decide,by decide,by decide,by decide,by simpa using h72,hcap⟩,RepL.to (fun b hb=>⟨⟨by omega,?_⟩,?_⟩) _ _ hL⟩
   ·have hne:b≠w.heap.size+1:=by omega
    rw[Below.heap_setCell _ _ _ _ hne,Below.heap_setCell _ _ _ _ hne,Below.heap_setCell _ _ _ _ hne,Below.heap_setCell _ _ _ _ hne,Below.heap_setCell _ _ _ _ hne]
   ·simp only[World.setCell,Array.size_modify]
    exact hb.2
end V
namespace V
theorem step_call_val2 {P:Program} {w:World} {ops:Array Oper} {o:Oper} {a:Act} {K:Act→World→Prop} {Q:Exit→Act→World→Prop} {E:Prop}
  (hg:o.guard=none) (z x y:Operand) (t u:TypeId) (hop:o.op=Op.call { callee:=Callee.value z,args:=#[x,y],argTypes:=#[t,u] })
  (f:FuncId) (v v':Value) (hz:a.eval z=fnV f) (hx:a.eval x=v) (hy:a.eval y=v') (hf:(callFunc f #[v,v']).run P w = .ok (.enter f #[v,v']) w) (hK:Calls P f #[v,v'] w fun e w' => ∃ r,e = .returned r∧K (a.put o.dst r) w') :
  if Region.wanted o (yielded ops a.tmps)=true then Oper.wp P o a w K Q else E:=by
 have hw:Region.wanted o (yielded ops a.tmps)=true:=by simp[Region.wanted,hg]
 rw[if_pos hw];unfold Oper.wp;have hrun:(execOp a.eval o).run P w = .ok (.enter f #[v,v']) w:=by
  simp[execOp,hop,resolve,invoke,hx,hy,hz,Result.andThen,Deferred.ofValue,hf]
 rw[hrun,Oper.upon_enter];refine hK.mono ?_;rintro e w' ⟨r,rfl,h⟩;exact h
theorem enterOTaken (v:Value) (w:World):(callFunc 117 #[v]).run Tryz.prog w = .ok (.enter 117 #[v]) w:=by kernel_rfl
abbrev set5 (w:World) (g:Nat) (k n:Int) (re im:Nat) (s:ByteArray) (a:Option Addr) (l c:Nat):World :=
 ((((w.setCell ⟨g,0,none⟩ (.int .i64 k)).setCell ⟨g,1,none⟩ (.int .i64 n)).setCell ⟨g,2,none⟩ (.complex .f64 re im)).setCell ⟨g,3,none⟩ (.string s)).setCell ⟨g,4,none⟩ (.slice a l c)
theorem set5_size (w:World) (g:Nat) (k n:Int) (re im:Nat) (s:ByteArray) (a:Option Addr) (l c:Nat):(set5 w g k n re im s a l c).heap.size=w.heap.size:=by
 simp only[set5,World.setCell,Array.size_modify]
theorem set5_other (w:World) (g b:Nat) (h:b≠g) (k n:Int) (re im:Nat) (s:ByteArray) (a:Option Addr) (l c:Nat):(set5 w g k n re im s a l c).heap[b]? = w.heap[b]?:=by
 unfold set5;rw[Below.heap_setCell _ _ _ _ h,Below.heap_setCell _ _ _ _ h,Below.heap_setCell _ _ _ _ h,Below.heap_setCell _ _ _ _ h,Below.heap_setCell _ _ _ _ h]
theorem set5_ext {w w':World} (h:Ext w w') (g:Nat) (hg:w.heap.size≤g) (k n:Int) (re im:Nat) (s:ByteArray) (a:Option Addr) (l c:Nat):Ext w (set5 w' g k n re im s a l c) :=
 ((((h.set hg _).set hg _).set hg _).set hg _).set hg _
def Ans (f:FuncId) (args:Array Value) (w:World) (y:PV) (x:Int):Prop :=
 Calls Tryz.prog f args w fun e w' => ∃ r,e = .returned (.tuple #[r,.int .i64 x])∧Rep w' (Fresh w w') y r∧Ext w w'
theorem ans5 {w w1 w2:World} {y:PV} {k n:Int} {re im:Nat} {s:ByteArray} {a:Option Addr} {l c:Nat} (x:Int) (g:Nat) (h01:Ext w w1) (hg:w.heap.size≤g) (hg2:g < w1.heap.size) (h12:Ext w1 w2)
  (hr:Rep w2 (Fresh w1 w2) y (.agg #[.int .i64 k,.int .i64 n,.complex .f64 re im,.string s,.slice a l c])) :
  ∃ r,Ending.returned (.tuple #[.agg #[.int .i64 k,.int .i64 n,.complex .f64 re im,.string s,.slice a l c],.int .i64 x]) = .returned (.tuple #[r,.int .i64 x])∧Rep (set5 w2 g k n re im s a l c) (Fresh w (set5 w2 g k n re im s a l c)) y r∧Ext w (set5 w2 g k n re im s a l c):=by
 refine⟨_,rfl,Rep.to (fun b hb=>⟨⟨?fa,?fb⟩,?fc⟩) _ _ hr,set5_ext (h01.trans h12) g hg _ _ _ _ _ _ _ _⟩
 case fa=>exact Nat.le_trans h01.le hb.1
 case fb=>rw[set5_size];exact hb.2
 case fc=>exact set5_other _ _ _ (by have:=hb.1;omega) _ _ _ _ _ _ _ _
structure Five (w:World) (g:Nat) (k n:Int) (re im:Nat) (s:ByteArray) (a:Option Addr) (l c:Nat):Prop where
 c0:w.cell? ⟨g,0,none⟩=some (.int .i64 k)
 c1:w.cell? ⟨g,1,none⟩=some (.int .i64 n)
 c2:w.cell? ⟨g,2,none⟩=some (.complex .f64 re im)
 c3:w.cell? ⟨g,3,none⟩=some (.string s)
 c4:w.cell? ⟨g,4,none⟩=some (.slice a l c)
 fz:∀ i,w.frozen? ⟨g,i,none⟩=false
theorem Five.new (w:World) (t:TypeId) (k n:Int) (re im:Nat) (s:ByteArray) (a:Option Addr) (l c:Nat):Five (w.alloc (.cells #[.int .i64 k,.int .i64 n,.complex .f64 re im,.string s,.slice a l c] t)) w.heap.size k n re im s a l c :=
 ⟨cell_box w _ t 0 rfl,cell_box w _ t 1 rfl,cell_box w _ t 2 rfl,cell_box w _ t 3 rfl,cell_box w _ t 4 rfl,frozen_box w _ t⟩
theorem Five.on {w w':World} {g:Nat} {k n:Int} {re im:Nat} {s:ByteArray} {a:Option Addr} {l c:Nat} (h:Five w g k n re im s a l c) (e:Ext w w'):Five w' g k n re im s a l c :=
 ⟨e.cell h.c0,e.cell h.c1,e.cell h.c2,e.cell h.c3,e.cell h.c4,fun i=>(Below.frozen e (p:=⟨g,i,none⟩) (World.block_lt_of_cell? w ⟨g,0,none⟩ h.c0)).trans (h.fz i)⟩
theorem binary_any (op:Int) (f:FuncId) (h1:1≤op) (h2:op≤14) (hf:∀ W:World,(Instr.index 185 (.agg binTab) (.int .i64 op)).run Tryz.prog W = .ok (fnV f) W) (hc:∀ (v u:Value) (W:World),(callFunc f #[v,u]).run Tryz.prog W = .ok (.enter f #[v,u]) W)
  (p q:PV) (v u:Value) (w:World) (hr:Rep w (In w) p v) (hq:Rep w (In w) q u) (y:PV) (x:Int)
  (hR:∀ W,Ext w W→Ans f #[if okv p then v else nilV,if okv q then u else nilV] W y x) :
  Ans 97 #[.int .i64 op,v,u] w y x:=by
 have CT:=zh (fun W (h:Ext w W)=>otaken_val p v W (hr.ext h));have CT':=zh (fun W (h:Ext w W)=>otaken_val q u W (hq.ext h));have HR:=zh hR;clear hR;generalize (if okv p=true then v else nilV)=v1 at CT HR
 generalize (if okv q=true then u else nilV)=u1 at CT' HR
 cases p with
 | mk k n re im s l =>
 cases q with
 | mk k' n' re' im' s' l' =>
 rw[Rep] at hr hq;obtain⟨a,cap,rfl,-,-⟩:=hr;obtain⟨a',cap',rfl,-,-⟩:=hq;unfold Ans;have HC:=zh hc;cases y with
 | mk ky ny rey imy sy ly =>
 clear hc
 go_enter Tryz.func97,Tryz.ntmps97
 go_wp2_with (first
  | (go_at_call 114;refine Calls.mono (arity_two _ _ (by omega) (by omega)) ?_;rintro e w0 ⟨rfl,rfl⟩)
  | (go_at_call 116;refine Calls.mono (binaries_any _) ?_;rintro e w1 ⟨rfl,hw1⟩;have FZ:=(Five.new _ _ _ _ _ _ _ _ _ _).on hw1;have y1:=(Ext.alloc _ _).trans hw1;have FB:=(Five.new _ _ _ _ _ _ _ _ _ _).on y1;have x1:=(Ext.alloc _ _).trans y1;have FA:=(Five.new _ _ _ _ _ _ _ _ _ _).on x1;simp only[heap_alloc_size] at FZ FB;have p0:=FA.c0;have p1:=FA.c1;have p2:=FA.c2;have p3:=FA.c3;have p4:=FA.c4;have q0:=FB.c0;have q1:=FB.c1;have q2:=FB.c2;have q3:=FB.c3;have q4:=FB.c4;have X0:=zh ((Ext.alloc _ _).trans x1);have A:=zh FA;have B:=zh FB;have Z:=zh FZ;clear hw1 x1 y1 FA FB FZ))
 have hzlt:w.heap.size+1+1 < w1.heap.size:=World.block_lt_of_cell? w1 _ (zu Z).c0;have DR:Hd (Ext w w1.drew):=Ext.drew (zu X0);have DD:Hd (Ext w1 w1.drew):=Ext.drew (Ext.refl _)
 go_region_law (first
  | (refine step_call_one rfl 117 (.tmp 19) 33 rfl _ (by simp[Act.eval,Act.put]) (enterOTaken _ _) (Calls.mono (zu CT _ ((zu X0).trans (zu D1))) ?_);rintro e w3 ⟨rfl,hw⟩;have D2:=zh ((zu D1).trans hw);clear hw;have fA:=(zu A).on (zu D2);have fB:=(zu B).on (zu D2);have p0:=fA.c0;have p1:=fA.c1;have p2:=fA.c2;have p3:=fA.c3;have p4:=fA.c4;have q0:=fB.c0;have q1:=fB.c1;have q2:=fB.c2;have q3:=fB.c3;have q4:=fB.c4;clear fA fB;refine⟨_,rfl,?_⟩)
  | (refine step_call_one rfl 117 (.tmp 19) 33 rfl _ (by simp[Act.eval,Act.put]) (enterOTaken _ _) (Calls.mono (zu CT _ (zu DR)) ?_);rintro e w2 ⟨rfl,hw⟩;have D1:=zh ((zu DD).trans hw);clear hw;have fA:=(zu A).on (zu D1);have fB:=(zu B).on (zu D1);have p0:=fA.c0;have p1:=fA.c1;have p2:=fA.c2;have p3:=fA.c3;have p4:=fA.c4;have q0:=fB.c0;have q1:=fB.c1;have q2:=fB.c2;have q3:=fB.c3;have q4:=fB.c4;clear fA fB;refine⟨_,rfl,?_⟩)
  | (refine step_call_one rfl 117 (.tmp 21) 33 rfl _ (by simp[Act.eval,Act.put]) (enterOTaken _ _) (Calls.mono (zu CT' _ ((zu X0).trans (zu D1))) ?_);rintro e w3 ⟨rfl,hw⟩;have D2:=zh ((zu D1).trans hw);clear hw;have fA:=(zu A).on (zu D2);have fB:=(zu B).on (zu D2);have p0:=fA.c0;have p1:=fA.c1;have p2:=fA.c2;have p3:=fA.c3;have p4:=fA.c4;have q0:=fB.c0;have q1:=fB.c1;have q2:=fB.c2;have q3:=fB.c3;have q4:=fB.c4;clear fA fB;refine⟨_,rfl,?_⟩)
  | (refine step_call_one rfl 117 (.tmp 21) 33 rfl _ (by simp[Act.eval,Act.put]) (enterOTaken _ _) (Calls.mono (zu CT' _ (zu DR)) ?_);rintro e w2 ⟨rfl,hw⟩;have D1:=zh ((zu DD).trans hw);clear hw;have fA:=(zu A).on (zu D1);have fB:=(zu B).on (zu D1);have p0:=fA.c0;have p1:=fA.c1;have p2:=fA.c2;have p3:=fA.c3;have p4:=fA.c4;have q0:=fB.c0;have q1:=fB.c1;have q2:=fB.c2;have q3:=fB.c3;have q4:=fB.c4;clear fA fB;refine⟨_,rfl,?_⟩)
  | (refine step_call_val2 rfl (.tmp 18) (.tmp 20) (.tmp 22) 33 33 rfl f _ _ (by simp[Act.eval,Act.put]) (by simp[Act.eval,Act.put]) (by simp[Act.eval,Act.put]) (zu HC _ _ _) (Calls.mono (zu HR _ ((zu X0).trans (zu D2))) ?_);rintro e w4 ⟨r,rfl,hr4,hw⟩;rw[Rep] at hr4;obtain⟨ay,cy,rfl,hby,hly⟩:=hr4;have D3:=zh ((zu D2).trans hw);have fZ:=(zu Z).on (zu D3);have z0:=fZ.c0;have z1:=fZ.c1;have z2:=fZ.c2;have z3:=fZ.c3;have z4:=fZ.c4;have zf:=fZ.fz;clear fZ;have BY:=zh hby;have LY:=zh hly;have W4:=zh hw;clear hby hly hw;refine⟨_,rfl,?_⟩))
 all_goals
  go_wp2_with fail
  have hlt3:=Nat.lt_of_lt_of_le hzlt (zu D2).le;exact bodyPost_ret (v:=.tuple #[.agg #[.int .i64 ky,.int .i64 ny,.complex .f64 rey imy,.string sy,.slice ay ly.length cy],.int .i64 x]) (by simp[results,Tryz.results97,go_sem,z0,z1,z2,z3,z4]) rfl
   (ans5 x (w.heap.size+1+1) ((zu X0).trans (zu D2)) (by omega) hlt3 (zu W4) (by rw[Rep];exact⟨ay,cy,rfl,zu BY,zu LY⟩))
end V
namespace V
theorem bd0 {k n:Int} {re im:Nat} {s:ByteArray} (hk1:-9223372036854775808≤k) (hk2:k≤9223372036854775807) (hn1:-9223372036854775808≤n) (hn2:n≤9223372036854775807)
  (hre:re < 18446744073709551616) (him:im < 18446744073709551616) (hs:s.size≤140737488355328):Bd k n re im s 0 0:=⟨hk1,hk2,hn1,hn2,hre,him,hs,by decide,by decide⟩
theorem rep_leaf (w:World) (F:Nat→Prop) {k n:Int} {re im:Nat} {s:ByteArray} (hb:Bd k n re im s 0 0):Rep w F (.mk k n re im s []) (.agg #[.int .i64 k,.int .i64 n,.complex .f64 re im,.string s,.slice none 0 0]):=by
 rw[Rep];exact⟨none,0,rfl,hb,by simp[RepL]⟩
theorem copied_any:∀ (p:PV) (v:Value) (w:World),Rep w (In w) p v →
  Calls Tryz.prog 100 #[v] w fun e w' => ∃ v',e = .returned v'∧Rep w' (Fresh w w') (norm p) v'∧Ext w w':=by
 refine PV.byList ?_;intro k n re im s l ih v w hr;by_cases hk4:k=4
 ·subst hk4
  exact copied_four n re im s l ih v w hr
 ·rw[Rep] at hr
  obtain⟨a,cap,rfl,hb,hl⟩:=hr;have B:=zh hb;have hs:=hb.bs;clear hl ih hb;by_cases hk1:k=1
  ·subst hk1
   go_enter Tryz.func100,Tryz.ntmps100
   go_wp2_with (go_at_call 120;refine Calls.mono (int_any _ _) ?_;rintro e w1 ⟨rfl,hw1⟩;have hx0:=hw1.box 0 rfl;have hx1:=hw1.box 1 rfl;have hx2:=hw1.box 2 rfl;have hx3:=hw1.box 3 rfl;have hx4:=hw1.box 4 rfl;have hf:=hw1.boxF;simp only[heap_alloc_size] at hx0 hx1 hx2 hx3 hx4 hf)
   have hE:=((Ext.alloc w _).trans (Ext.alloc _ _)).trans hw1;have hb:=zu B;refine bodyPost_ret (v:=.agg #[.int .i64 1,.int .i64 n,.complex .f64 0 0,.string ⟨#[]⟩,.slice none 0 0]) (by simp[results,Tryz.results100,go_sem,hx0,hx1,hx2,hx3,hx4]) rfl ⟨_,rfl,?_,((((hE.set (by simp) _).set (by simp) _).set (by simp) _).set (by simp) _).set (by simp) _⟩;rw[norm,if_pos rfl];exact rep_leaf _ _ (bd0 hb.bk1 hb.bk2 hb.bn1 hb.bn2 (by decide) (by decide) (by decide))
  ·by_cases hk2:k=2
   ·subst hk2
    go_enter Tryz.func100,Tryz.ntmps100
    go_wp2_with fail
    go_returns
    have hb:=zu B;refine⟨_,rfl,?_,(Ext.alloc _ _).trans (Ext.alloc _ _)⟩;rw[norm,if_neg (by decide),if_pos rfl];exact rep_leaf _ _ (bd0 hb.bk1 hb.bk2 (by decide) (by decide) hb.bre hb.bim (by decide))
   ·by_cases hk3:k=3
    ·subst hk3
     go_enter Tryz.func100,Tryz.ntmps100
     go_wp2_with (go_at_call 121;refine Calls.mono (clone_any _ _ hs) ?_;rintro e w1 ⟨rfl,hw1⟩;have hx0:=hw1.box 0 rfl;have hx1:=hw1.box 1 rfl;have hx2:=hw1.box 2 rfl;have hx3:=hw1.box 3 rfl;have hx4:=hw1.box 4 rfl;have hf:=hw1.boxF;simp only[heap_alloc_size] at hx0 hx1 hx2 hx3 hx4 hf)
     have hE:=((Ext.alloc w _).trans (Ext.alloc _ _)).trans hw1;have hb:=zu B;refine bodyPost_ret (v:=.agg #[.int .i64 3,.int .i64 0,.complex .f64 0 0,.string s,.slice none 0 0]) (by simp[results,Tryz.results100,go_sem,hx0,hx1,hx2,hx3,hx4]) rfl ⟨_,rfl,?_,((((hE.set (by simp) _).set (by simp) _).set (by simp) _).set (by simp) _).set (by simp) _⟩;rw[norm,if_neg (by decide),if_neg (by decide),if_pos rfl];exact rep_leaf _ _ (bd0 hb.bk1 hb.bk2 (by decide) (by decide) (by decide) (by decide) hs)
    ·have e1:(k == 1)=false:=by simpa using hk1
     have e2:(k == 2)=false:=by simpa using hk2
     have e3:(k == 3)=false:=by simpa using hk3
     have e4:(k == 4)=false:=by simpa using hk4
     go_enter Tryz.func100,Tryz.ntmps100
     go_wp2_with (go_at_call 113;refine Calls.mono (nil_any _) ?_;rintro e w1 ⟨rfl,hw1⟩;have hx0:=hw1.box 0 rfl;have hx1:=hw1.box 1 rfl;have hx2:=hw1.box 2 rfl;have hx3:=hw1.box 3 rfl;have hx4:=hw1.box 4 rfl;have hf:=hw1.boxF;simp only[heap_alloc_size] at hx0 hx1 hx2 hx3 hx4 hf)
     have hE:=((Ext.alloc w _).trans (Ext.alloc _ _)).trans hw1;refine bodyPost_ret (v:=nilV) (by simp[results,Tryz.results100,go_sem,hx0,hx1,hx2,hx3,hx4]) rfl ⟨_,rfl,?_,((((hE.set (by simp) _).set (by simp) _).set (by simp) _).set (by simp) _).set (by simp) _⟩;rw[norm,if_neg hk1,if_neg hk2,if_neg hk3,if_neg hk4];exact rep_nil _ _
def cp (p:PV):PV:=norm (tk p)
theorem copy_any (p:PV) (v:Value) (w:World) (hr:Rep w (In w) p v) :
  Calls Tryz.prog 64 #[v] w fun e w' => ∃ v',e = .returned v'∧Rep w' (Fresh w w') (cp p) v'∧Ext w w':=by
 have hc:=fun w' (h:Ext w w')=>taken_any p v w' (hr.ext h);have hd:=fun v' w' (h:Rep w' (In w') (tk p) v')=>copied_any (tk p) v' w' h;have hq:cp p=norm (tk p):=rfl;obtain⟨q,hq2⟩:∃ q,q=norm (tk p):=⟨_,rfl⟩;rw[hq,← hq2];rw[← hq2] at hd;obtain⟨t,ht⟩:∃ t,t=tk p:=⟨_,rfl⟩;rw[← ht] at hc hd;clear hq hq2 ht;cases p with
 | mk k n re im s l =>
 cases q with
 | mk k' n' re' im' s' l' =>
 rw[Rep] at hr;obtain⟨a,cap,rfl,hb,hl⟩:=hr;have C:=zh hc;have D:=zh hd;clear hc hd hb hl
 go_enter Tryz.func64,Tryz.ntmps64
 go_wp2_with (first | (go_at_call 94;refine Calls.mono (zu C _ ((Ext.alloc _ _).trans (Ext.alloc _ _))) ?_;rintro e w1 ⟨v1,rfl,hr1,hw1⟩) | (go_at_call 100;refine Calls.mono (zu D _ _ hr1) ?_;rintro e w2 ⟨v2,rfl,hr2,hw2⟩;rw[Rep] at hr2;obtain⟨a2,c2,rfl,hb2,hl2⟩:=hr2;have hw3:=hw1.trans hw2;have hx0:=hw3.box 0 rfl;have hx1:=hw3.box 1 rfl;have hx2:=hw3.box 2 rfl;have hx3:=hw3.box 3 rfl;have hx4:=hw3.box 4 rfl;have hf:=hw3.boxF;simp only[heap_alloc_size] at hx0 hx1 hx2 hx3 hx4 hf))
 have hE:=((Ext.alloc w _).trans (Ext.alloc _ _)).trans hw3;have hE5:=((((hE.set (a:=⟨w.heap.size+1,0,none⟩) (by simp) (.int .i64 k')).set (a:=⟨w.heap.size+1,1,none⟩) (by simp) (.int .i64 n')).set (a:=⟨w.heap.size+1,2,none⟩) (by simp) (.complex .f64 re' im')).set (a:=⟨w.heap.size+1,3,none⟩) (by simp) (.string s')).set (a:=⟨w.heap.size+1,4,none⟩) (by simp) (.slice a2 l'.length c2);have hlow:w.heap.size+1 < w1.heap.size:=by have:=hw1.le;simp at this;omega
 refine bodyPost_ret (v:=.agg #[.int .i64 k',.int .i64 n',.complex .f64 re' im',.string s',.slice a2 l'.length c2]) (by simp[results,Tryz.results64,go_sem,hx0,hx1,hx2,hx3,hx4]) rfl ⟨_,rfl,?_,hE5⟩;rw[Rep];refine⟨a2,c2,rfl,hb2,RepL.to (fun b hb=>⟨⟨?fa,?fb⟩,?fc⟩) _ _ hl2⟩
 case fa=>have:=hb.1;omega
 case fb =>
  simp only[World.setCell,Array.size_modify];exact hb.2
 case fc =>
  have hne:b≠w.heap.size+1:=by have:=hb.1;omega
  rw[Below.heap_setCell _ _ _ _ hne,Below.heap_setCell _ _ _ _ hne,Below.heap_setCell _ _ _ _ hne,Below.heap_setCell _ _ _ _ hne,Below.heap_setCell _ _ _ _ hne]
end V
end Go.Proofs.YtdnclahaejlehaaGreat
