/- Laying code,as plain functions: of trees whose nodes are blocks,whiles,prints,expressions alone,numbers,lists,calls and ops of two;none of others. -/
import Derived.Test.YtjnpehohialmbaaGreatZs3
import Derived.Test.YtjnpehohialmbaaGreatZs28
set_option linter.unusedSimpArgs false
set_option linter.unusedVariables false
set_option maxRecDepth 10000
namespace Go.Proofs.YtjnpehohialmbaaGreat
open Go.RowKit
section
abbrev KI:=V.KI
structure GM where
 code:List KI
 cs:List (Option Int)
 cl:List Int
 tk:Int
end
section
abbrev kiC (i:KI):List Value:=[.int .i64 i.op,.int .i64 i.a,.int .i64 i.b]
def RepO (w:World) (F:Nat→Prop) (l:List Int) (a:Option Addr):Prop:=l = []∨∃ b o,a=some ⟨b,o,none⟩∧F b∧∀ j x,l[j]? = some x→w.cell? ⟨b,o+j,none⟩=some (.int .i64 x)
theorem RepO.to {w w':World} {F F':Nat→Prop} (h:∀ b,F b→F' b∧w'.heap[b]? = w.heap[b]?) {l:List Int} {a:Option Addr} (hr:RepO w F l a):RepO w' F' l a:=by
 rcases hr with hr | ⟨b,o,rfl,hf,hc⟩
 ·exact Or.inl hr
 ·exact Or.inr ⟨b,o,rfl,(h b hf).1,fun j x hx=>by rw[World.cell?_of_block (w:=w) (h b hf).2];exact hc j x hx⟩
variable {g:Nat} {w w' w2:World} {d:GM} {sv lp:Value} {ka ca la:Option Addr} {kc cc lc:Nat}
theorem own_setM {w:World} {base:Nat} {t:TypeId} {size g n cap:Nat} {xs:List Value} (h:w.ownsRow base t size (.slice (some ⟨g,0,none⟩) n cap) n xs) (i:Nat) (v:Value):(w.setCell ⟨g,i,none⟩ v).ownsRow base t size (.slice (some ⟨g,0,none⟩) n cap) n (xs.set i v):=by
 obtain⟨h1,h2⟩:=h;refine⟨by simpa using h1,?_⟩;rcases h2 with⟨e,h0⟩ | ⟨g2,cap2,cur,e,hb,hg,hn,hcm,hcs,ht⟩
 ·cases e
 ·injection e with e1 e2 e3
  injection e1 with e1;injection e1 with e1;subst e1 e3;refine Or.inr ⟨g,cap,cur.setIfInBounds i v,rfl,hb,row_set hg i v,hn,hcm,by simpa using hcs,?_⟩;rw[← ht,Array.toList_setIfInBounds,List.take_set]
theorem own_keepM {wa wb:World} {base:Nat} {e:TypeId} {size n:Nat} {v:Value} {xs:List Value} (h:wa.ownsRow base e size v n xs) (k:∀ q,v.ownBlock=some q→wb.heap[q]? = wa.heap[q]?):wb.ownsRow base e size v n xs:=by
 obtain⟨h1,h2⟩:=h;refine⟨h1,?_⟩;rcases h2 with h2 | ⟨b,cap,cur,q1,q2,q3,q4⟩
 ·exact Or.inl h2
 ·subst q1
  exact Or.inr ⟨b,cap,cur,rfl,q2,(k b rfl).trans q3,q4⟩
theorem own_extM {base:Nat} {e:TypeId} {size n:Nat} {v:Value} {xs:List Value} (h:w.ownsRow base e size v n xs) (k:Ext w w'):w'.ownsRow base e size v n xs:=by
 obtain⟨h1,h2⟩:=h;refine⟨h1,?_⟩;rcases h2 with h2 | ⟨b,cap,cur,q1,q2,q3,q4⟩
 ·exact Or.inl h2
 ·exact Or.inr ⟨b,cap,cur,q1,q2,(k.block b (Array.getElem?_eq_some_iff.1 q3).1).trans q3,q4⟩
theorem own_twoM {base base':Nat} {e e':TypeId} {size size' n n':Nat} {v v':Value} {xs xs':List Value} (h:w.ownsRow base e size v n xs) (h':w.ownsRow base' e' size' v' n' xs') (hne:e≠e'):v.ownBlock=none∨v.ownBlock≠v'.ownBlock:=by
 rcases h.2 with⟨rfl,_⟩ | ⟨b,cap,cur,rfl,_,hrow,_⟩
 ·exact Or.inl rfl
 ·refine Or.inr (fun e1 => ?_)
  rcases h'.2 with⟨rfl,_⟩ | ⟨b',cap',cur',rfl,_,hrow',_⟩
  ·cases e1
  ·simp only[Value.ownBlock,Option.some.injEq] at e1
   subst e1;rw[hrow] at hrow';injection hrow' with hrow';injection hrow' with _ h2 _;exact hne h2
theorem row_growM {wa w6:World} {v:Value} {e:TypeId} {size n:Nat} {xs:List Value} {ob:Obj} (ho:wa.ownsRow (g+1) e size v n xs) (hgw:wa.grownBy w6 v.ownBlock) (h:wa.heap[g]? = some ob):w6.heap[g]? = some ob :=
 (hgw.block g (Array.getElem?_eq_some_iff.1 h).1 (fun e=>by have:=(ho.lt g e.symm).1;omega)).trans h
theorem infoK:(Tryz.prog.info? 128).map (fun i=>(i.zero,i.size,i.bytes))=some (some (.agg #[.int .i64 0,.int .i64 0,.int .i64 0]),3,24):=by kernel_rfl
theorem infoVv:(Tryz.prog.info? 32).map (fun i=>(i.zero,i.size,i.bytes))=some (some (.agg #[.int .i64 0,.int .i64 0,.complex .f64 0 0,.string ⟨#[]⟩,.slice none 0 0]),5,72):=by kernel_rfl
theorem one_ki (i:KI):∀ u ∈ kiC i,u.oneCell' = true:=by
 intro u hu;simp at hu;rcases hu with rfl | rfl | rfl <;> rfl
end
end Go.Proofs.YtjnpehohialmbaaGreat
