/- The eight texts of SvmShorts,and what is told of them. -/
import Derived.Test.YtjnpehohialmbaaGreatZs48
import Derived.Test.YtjnpehohialmbaaGreatZs42
set_option linter.unusedSimpArgs false
set_option linter.unusedVariables false
set_option maxRecDepth 10000
set_option maxHeartbeats 1000000
namespace Go.Proofs.YtjnpehohialmbaaGreat
open Go.RowKit
section
def preX:List UInt8:=[102,110,32,102,32,40,32,120,32,41,32,123,32,112,114,105,110,116,32,120,32,59,32,114,101,116,117,114,110,32,120,32,59,32,125,32,102,110,32,109,97,105,110,32,40,32,41,32,123,32,114,101,116,117,114,110,32,102,32,40,32]
def tAX (x:Bool):List UInt8:=if x then [50,105] else [34,34]
def opX (o:Bool):List UInt8:=if o then [32,124,124,32] else [32,38,38,32]
def txX (a b o:Bool):List UInt8:=preX++tAX a++[32,41]++opX o++[102,32,40,32]++tAX b++[32,41,32,59,32,125]
def kX (x:Bool):Option V.RK:=if x then some (.inr true) else some (.inr false)
def evX (a b o:Bool):List V.SEv:=if a=o then [⟨1,1,V.nilP⟩,⟨2,0,V.cp (V.rcP (kX a))⟩] else [⟨1,1,V.nilP⟩,⟨2,0,V.cp (V.rcP (kX a))⟩,⟨1,2,V.nilP⟩,⟨2,0,V.cp (V.rcP (kX b))⟩]
def wantX (a b o:Bool):Bool:=if o then a || b else a && b
end
section
theorem size_mk (l:List UInt8):(⟨l.toArray⟩:ByteArray).size=l.length:=by
 show l.toArray.size=_;simp
def begL (l:List UInt8):PS:=if 4000 < l.length then ⟨[],0,0,2⟩ else match (lexL (l.length+1) (l.length+1) l 0).2 with
 | some b=>⟨[],0,(b:Nat),10⟩
 | none=>⟨(lexL (l.length+1) (l.length+1) l 0).1,0,0,0⟩
theorem begP_L (l:List UInt8):begP ⟨l.toArray⟩=begL l:=by
 unfold begP begL;rw[lexF_L _ _ _ (Nat.zero_le _),size_mk,L_mk,List.drop_zero];rfl
def rdL (l:List UInt8) (F:Nat):List PFn × PS:=funsP l.length (stsP l.length F F).2.1 F F [] (begL l)
theorem rdP_L (l:List UInt8) (F:Nat):rdP ⟨l.toArray⟩ F=rdL l F:=by
 unfold rdP rdL;rw[begP_L,size_mk]
end
section
variable {w w' w2:World}
def vX:PN:=⟨19,0,⟨#[120]⟩,0,[]⟩
def cX (x:Bool):PN:=if x then ⟨16,0,⟨#[]⟩,2,[]⟩ else ⟨17,0,⟨#[]⟩,0,[]⟩
abbrev nmFX:ByteArray:=⟨#[102]⟩
abbrev nmMX:ByteArray:=⟨#[109,97,105,110]⟩
def fsX (a b o:Bool):List PFn:=[⟨nmFX,[⟨#[120]⟩],⟨10,0,zE,0,[⟨8,0,zE,0,[vX]⟩,⟨7,0,zE,0,[vX]⟩]⟩⟩,⟨nmMX,[],⟨10,0,zE,0,[⟨7,0,zE,0,[⟨if o then 13 else 12,0,zE,0,[⟨20,0,nmFX,0,[cX a]⟩,⟨20,0,nmFX,0,[cX b]⟩]⟩]⟩]⟩⟩]
theorem rd_X (a b o:Bool):rdL (txX a b o) 60=(fsX a b o,⟨[],0,0,0⟩):=by
 cases a <;> cases b <;> cases o <;> kernel_rfl
theorem beg_X (a b o:Bool):(begL (txX a b o)).ts.length < 60:=by
 have h:(begL (txX a b o)).ts.length=30:=by cases a <;> cases b <;> cases o <;> kernel_rfl
 omega
def scX:List PSc:=[⟨1,[0,0],[]⟩,⟨0,[],[0,0]⟩]
theorem doc_X (a b o:Bool):docP (fsX a b o)=(scX,0):=by
 cases a <;> cases b <;> cases o <;> kernel_rfl
theorem too_X (a b o:Bool):tooP (fsX a b o)=false:=by
 cases a <;> cases b <;> cases o <;> kernel_rfl
theorem main_X (a b o:Bool):rMain (fsX a b o) 0 0=1:=by
 cases a <;> cases b <;> cases o <;> kernel_rfl
def ibX (a b:Bool):Int:=if a=b then 0 else 1
def ksX (a b o:Bool):List (Option V.RK):=(if a=b then [kX a] else [kX a,kX b])++(if o then [some (.inl 0),some (.inl 1),none] else [some (.inl 1),some (.inl 0),none])
def cdX (a b o:Bool):List V.KI:=if o then [⟨1,0,0⟩,⟨12,1,0⟩,⟨9,0,1⟩,⟨6,16,0⟩,⟨8,12,0⟩,⟨1,ibX a b,0⟩,⟨12,2,0⟩,⟨9,0,1⟩,⟨6,16,0⟩,⟨8,12,0⟩,⟨1,ibX a b+1,0⟩,⟨7,13,0⟩,⟨1,ibX a b+2,0⟩,⟨10,0,0⟩,⟨1,ibX a b+3,0⟩,⟨10,0,0⟩]
 else [⟨1,0,0⟩,⟨12,1,0⟩,⟨9,0,1⟩,⟨8,10,0⟩,⟨1,ibX a b,0⟩,⟨12,2,0⟩,⟨9,0,1⟩,⟨8,10,0⟩,⟨1,ibX a b+1,0⟩,⟨7,11,0⟩,⟨1,ibX a b+2,0⟩,⟨10,0,0⟩,⟨1,ibX a b+3,0⟩,⟨10,0,0⟩]
def cfX:List V.KI:=[⟨2,0,0⟩,⟨11,0,0⟩,⟨2,0,0⟩,⟨10,0,0⟩,⟨1,0,0⟩,⟨10,0,0⟩]
def fnX (a b o:Bool):List V.KF:=[⟨nmFX,1,1,[none].map V.rcP,cfX⟩,⟨nmMX,0,0,(ksX a b o).map V.rcP,cdX a b o⟩]
theorem fns_X (a b o:Bool):rFns 60 (fsX a b o) scX 0 []=some (fnX a b o):=by
 cases a <;> cases b <;> cases o <;> kernel_rfl
theorem bnd_codeX {l:List V.KI} (h:l.all (fun i=>decide (-100000≤i.a∧i.a≤100000∧-100000≤i.b∧i.b≤100000))=true):V.KBd l:=by
 intro i hi;have:=List.all_eq_true.1 h i hi;simp only[decide_eq_true_eq] at this;omega
theorem kfb_X (a b o:Bool):V.KfB (fnX a b o):=by
 intro f hf;rcases List.mem_cons.1 hf with rfl | hf
 ·exact⟨by show 1≤1000000;omega,by show 6≤1000000;omega,bnd_codeX (l:=cfX) (by decide)⟩
 rcases List.mem_cons.1 hf with rfl | hf
 ·exact⟨by cases a <;> cases b <;> cases o <;> decide,by cases a <;> cases b <;> cases o <;> decide,bnd_codeX (l:=cdX a b o) (by cases a <;> cases b <;> cases o <;> decide)⟩
 ·cases hf
theorem hgt_X0 (a b o:Bool):V.kHgt (fnX a b o) 0 1000=some ([0,1,0,1,-1,-1],0):=by
 cases a <;> cases b <;> cases o <;> kernel_rfl
def hsX (o:Bool):List Int:=if o then [0,1,1,1,1,0,1,1,1,1,0,1,0,1,-1,-1] else [0,1,1,1,0,1,1,1,0,1,0,1,-1,-1]
theorem hgt_X1 (a b o:Bool):V.kHgt (fnX a b o) 1 1000=some (hsX o,0):=by
 cases a <;> cases b <;> cases o <;> kernel_rfl
theorem chk_X (a b o:Bool):V.kChk (fnX a b o) 1 1000=some 0:=by
 cases a <;> cases b <;> cases o <;> kernel_rfl
theorem lf_rcP (l:List (Option V.RK)):∀ c ∈ l.map V.rcP,∃ v,c=V.rcP v:=by
 intro c hc;obtain⟨v,_,rfl⟩:=List.mem_map.1 hc;exact⟨v,rfl⟩
theorem hv_X (a b o:Bool) (z:Nat) (q:V.KF) (h:(fnX a b o)[z]? = some q):V.HdOk q∧∃ hs:List Int,hs.length=q.code.length∧V.kHgt (fnX a b o) (z:Int) 1000=some (hs,0):=by
 match z,h with
 | 0,h =>
  injection h with h;subst h;exact⟨⟨lf_rcP _,rfl,by show (1:Int)≤1;omega,by show (1:Int)≤64;omega,by show 0 < 6;omega,by show 6≤1000;omega⟩,_,rfl,hgt_X0 a b o⟩
 | 1,h =>
  injection h with h;subst h;exact⟨⟨lf_rcP _,rfl,by show (0:Int)≤0;omega,by show (0:Int)≤64;omega,by cases a <;> cases b <;> cases o <;> decide,by cases a <;> cases b <;> cases o <;> decide⟩,_,by cases a <;> cases b <;> cases o <;> rfl,hgt_X1 a b o⟩
 | z+2,h=>cases h
theorem made_X (a b o:Bool) (s:ByteArray) (hs:s=⟨(txX a b o).toArray⟩) (w:World):Calls Tryz.prog 5 #[.string s] w fun e' w' => ∃ pa pc,e' = .returned (.tuple #[V.kpV pa 2 pc 1,.bool true])∧V.RepP w' (V.In w') pa (fnX a b o)∧Ext w w':=by
 subst hs;have h:=made_ok (w:=w) ⟨(txX a b o).toArray⟩ 60 60 1000 (fsX a b o) scX (fnX a b o) (by cases a <;> cases b <;> cases o <;> decide) (by rw[begP_L];exact beg_X a b o) (by omega) (by rw[rdP_L,rd_X]) (by rw[rdP_L,rd_X]) (too_X a b o) (by omega) (doc_X a b o) (fns_X a b o) (hv_X a b o) (kfb_X a b o)
 rw[main_X] at h;exact h
theorem go_X (a b o:Bool):V.sGo (fnX a b o) 60 ⟨[⟨1,0,List.replicate 0 V.nilP⟩],min 99 100000,[]⟩=some (⟨[⟨0,0,[V.it (if wantX a b o then 1 else 0)]⟩],if a=o then 97 else 95,evX a b o⟩,-1):=by
 cases a <;> cases b <;> cases o <;> kernel_rfl
theorem ev_lenX (a b o:Bool):(evX a b o).length=if a=o then 2 else 4:=by
 cases a <;> cases b <;> cases o <;> rfl
theorem evK {l:List V.SEv}:∀ {xs:List Value},V.EvR l xs→∀ (j:Nat) (e:V.SEv),l[j]? = some e→xs[j * 7]? = some (.int .i64 e.k):=by
 induction l with
 | nil=>intro xs _ j e h;cases h
 | cons y l ih =>
  intro xs h j e he;obtain⟨a,cap,rest,rfl,hr⟩:=h;cases j with
  | zero =>
   obtain rfl:y=e:=by simpa using he
   rfl
  | succ j =>
   rw[show (j+1) * 7=7+j * 7 by omega,List.getElem?_append_right (by simp)]
   simpa using ih hr j e (by simpa using he)
theorem run_X (a b o:Bool) (pa:Option Addr) (pc:Nat) (w:World) (hp:V.RepP w (V.In w) pa (fnX a b o)):Calls Tryz.prog 6 #[V.kpV pa 2 pc 1,.int .i64 99] w fun en w'=>Ext w w'∧∃ eb ec x2 x3 x4 x5 x6 x7,en = .returned (.tuple #[V.trV (some ⟨eb,0,none⟩) (evX a b o).length ec (.int .i64 1) (.int .i64 (if wantX a b o then 1 else 0)) (.complex .f64 x2 x3) (.string x4) (.slice x5 x6 x7) 0,.int .i64 0])∧∀ (j:Nat) (e:V.SEv),(evX a b o)[j]? = some e→w'.cell? ⟨eb,j * 7,none⟩=some (.int .i64 e.k):=by
 have h:=V.svmrun_m (fnX a b o) pa pc 1 60 1000 _ _ (-1) (V.it (if wantX a b o then 1 else 0)) (V.it (if wantX a b o then 1 else 0)) (rfl:(fnX a b o)[1]? = some _) 0 rfl rfl (by omega) 99 hp (fun f hf=>(kfb_X a b o f hf).2.1) (by show 2≤1000000;omega) (kfb_X a b o) (by omega) (chk_X a b o) (go_X a b o) (fun _=>⟨rfl,by cases a <;> cases b <;> cases o <;> kernel_rfl⟩) (fun h=>absurd rfl h)
 refine Calls.mono h ?_;rintro en w' ⟨hX,ea,ec,a',cap,rfl,evs,hev,hc⟩;rcases hc with hc | ⟨eb,cur,rfl,hb,hc⟩
 ·exfalso
  subst hc;have h0:∃ e,(evX a b o)[0]? = some e:=⟨_,List.getElem?_eq_getElem (by rw[ev_lenX];split <;> omega)⟩
  obtain⟨e,he⟩:=h0;have:=evK hev 0 e he;simp at this
 ·exact⟨hX,eb,ec,_,_,_,_,_,_,rfl,fun j e he=>hc _ _ (evK hev j e he)⟩
end
section
variable {w w' w2:World}
def awTS:List UInt8:=[102,110,32,109,97,105,110,40,41,32,123,32,112,114,105,110,116,32,49,59,32,125]
def fsAS:List PFn:=[⟨nmMX,[],⟨10,0,zE,0,[⟨8,0,zE,0,[⟨15,0,zE,1,[]⟩]⟩]⟩⟩]
def fnAS:List V.KF:=[⟨nmMX,0,0,[some (.inl 1),none].map V.rcP,[⟨1,0,0⟩,⟨11,0,0⟩,⟨1,1,0⟩,⟨10,0,0⟩]⟩]
theorem aw_rdS:rdL awTS 60=(fsAS,⟨[],0,0,0⟩):=by kernel_rfl
theorem aw_begS:(begL awTS).ts.length < 60:=by
 have h:(begL awTS).ts.length=9:=by kernel_rfl
 omega
theorem aw_docS:docP fsAS=([⟨0,[],[]⟩],0):=by kernel_rfl
theorem aw_fnsS:rFns 60 fsAS [⟨0,[],[]⟩] 0 []=some fnAS:=by kernel_rfl
theorem aw_hgtS:V.kHgt fnAS 0 1000=some ([0,1,0,1],0):=by kernel_rfl
theorem aw_chkS:V.kChk fnAS 0 1000=some 0:=by kernel_rfl
theorem aw_kfbS:V.KfB fnAS:=by
 intro f hf;rcases List.mem_cons.1 hf with rfl | hf
 ·exact⟨by show 2≤1000000;omega,by show 4≤1000000;omega,bnd_codeX (l:=[⟨1,0,0⟩,⟨11,0,0⟩,⟨1,1,0⟩,⟨10,0,0⟩]) (by decide)⟩
 ·cases hf
theorem aw_hvS (z:Nat) (q:V.KF) (h:fnAS[z]? = some q):V.HdOk q∧∃ hs:List Int,hs.length=q.code.length∧V.kHgt fnAS (z:Int) 1000=some (hs,0):=by
 match z,h with
 | 0,h =>
  injection h with h;subst h;exact⟨⟨lf_rcP [some (.inl 1),none],rfl,by show (0:Int)≤0;omega,by show (0:Int)≤64;omega,by show 0 < 4;omega,by show 4≤1000;omega⟩,_,rfl,aw_hgtS⟩
 | z+1,h=>cases h
theorem made_awS (w:World):Calls Tryz.prog 5 #[.string ⟨awTS.toArray⟩] w fun e' w' => ∃ pa pc,e' = .returned (.tuple #[V.kpV pa 1 pc 0,.bool true])∧V.RepP w' (V.In w') pa fnAS∧Ext w w':=by
 have h:=made_ok (w:=w) ⟨awTS.toArray⟩ 60 60 1000 fsAS [⟨0,[],[]⟩] fnAS (by decide) (by rw[begP_L];exact aw_begS) (by omega) (by rw[rdP_L,aw_rdS]) (by rw[rdP_L,aw_rdS]) (by kernel_rfl) (by omega) aw_docS aw_fnsS aw_hvS aw_kfbS;rw[show rMain fsAS 0 0=0 by kernel_rfl] at h;exact h
theorem cp_itX (x:Int):V.cp (V.it x)=V.it x:=by
 unfold V.cp;have h:V.tk (V.it x)=V.it x:=by unfold V.tk;rw[V.okv_it,if_pos rfl]
 rw[h];rfl
theorem run_awS (pa:Option Addr) (pc:Nat) (w:World) (hp:V.RepP w (V.In w) pa fnAS):Calls Tryz.prog 6 #[V.kpV pa 1 pc 0,.int .i64 9] w fun en w'=>Ext w w'∧∃ b ec x0 x1 x2 x3 x4 x5 x6 x7,en = .returned (.tuple #[V.trV (some ⟨b,0,none⟩) 1 ec (.int .i64 x0) (.int .i64 x1) (.complex .f64 x2 x3) (.string x4) (.slice x5 x6 x7) 0,.int .i64 0])∧w'.cell? ⟨b,0,none⟩=some (.int .i64 2)∧w'.cell? ⟨b,3,none⟩=some (.int .i64 1):=by
 have hg:V.sGo fnAS 10 ⟨[⟨0,0,List.replicate 0 V.nilP⟩],min 9 100000,[]⟩=some (⟨[⟨0,0,[V.nilP]⟩],8,[⟨2,0,V.cp (V.it 1)⟩]⟩,-1):=by kernel_rfl
 have h:=V.svmrun_m fnAS pa pc 0 10 1000 _ _ (-1) (V.cp V.nilP) V.nilP (rfl:fnAS[0]? = some _) 0 rfl rfl (by omega) 9 hp (fun f hf=>(aw_kfbS f hf).2.1) (by show 1≤1000000;omega) aw_kfbS (by omega) aw_chkS hg (fun _=>⟨rfl,rfl⟩) (fun h=>absurd rfl h);refine Calls.mono h ?_;rintro en w' ⟨hX,ea,ec,a,cap,rfl,evs,hev,hc⟩;obtain⟨a',cap',rest,rfl,hr⟩:=hev;rcases hc with hc | ⟨b,cur,rfl,hb,hc⟩
 ·simp[V.evC] at hc
 ·rw[cp_itX] at hc
  exact⟨hX,b,ec,_,_,_,_,_,_,_,_,rfl,hc 0 _ rfl,hc 3 _ rfl⟩
theorem awake9x_w (w:World):Calls Tryz.prog 7 #[] w fun e w'=>e = .returned (.bool true)∧Ext w w':=by
 have HM:=zh (fun W=>made_awS W);have HR:=zh (fun pa pc W hp=>run_awS pa pc W hp);unfold awTS at HM
 go_enter Tryz.func7,Tryz.ntmps7
 go_wp2_with (first
  | (go_at_call 5;refine Calls.mono (zu HM _) ?_;rintro e w1 ⟨pa,pc,rfl,hR,hX⟩;have R1:=zh (fun ob=>V.RepP.ext hR (Ext.alloc w1 ob));have X1:=zh hX;clear hR hX)
  | (go_at_call 6;refine Calls.mono (zu HR _ _ _ (zu R1 _)) ?_;rintro e w3 ⟨hX,b,ec,x0,x1,x2,x3,x4,x5,x6,x7,rfl,d0,d3⟩;have X3:=zh (((zu X1).trans (Ext.alloc _ _)).trans hX);have hb3:b < w3.heap.size:=World.block_lt_of_cell? w3 _ d0;have hbn:b≠w3.heap.size:=Nat.ne_of_lt hb3;have d0:=fun ob=>(Ext.alloc w3 ob).cell d0;have d3:=fun ob=>(Ext.alloc w3 ob).cell d3;clear hX))
 go_ret;exact⟨rfl,(zu X3).trans (Ext.alloc _ _)⟩
end
end Go.Proofs.YtjnpehohialmbaaGreat
