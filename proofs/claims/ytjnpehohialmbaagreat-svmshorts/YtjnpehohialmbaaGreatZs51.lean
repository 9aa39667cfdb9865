/- The law SvmShorts: any two truths,both ops. -/
import Derived.Test.YtjnpehohialmbaaGreatZs50
set_option linter.unusedSimpArgs false
set_option linter.unusedVariables false
set_option maxRecDepth 10000
namespace Go.Proofs.YtjnpehohialmbaaGreat
open Go.RowKit
section
theorem ev_kX (a b o:Bool) (j:Nat) (hj:j < (evX a b o).length):∃ e,(evX a b o)[j]? = some e∧e.k=if j % 2=0 then 1 else 2:=by
 unfold evX at hj ⊢
 split at hj
 ·rename_i h
  rw[if_pos h]
  match j,hj with
  | 0,_=>exact⟨_,rfl,rfl⟩
  | 1,_=>exact⟨_,rfl,rfl⟩
  | j+2,hj=>simp at hj;omega
 ·rename_i h
  rw[if_neg h]
  match j,hj with
  | 0,_=>exact⟨_,rfl,rfl⟩
  | 1,_=>exact⟨_,rfl,rfl⟩
  | 2,_=>exact⟨_,rfl,rfl⟩
  | 3,_=>exact⟨_,rfl,rfl⟩
  | j+4,hj=>simp at hj;omega
theorem run_n (a b o:Bool) (n:Nat) (v:Int) (hn:(evX a b o).length=n) (hv:(if wantX a b o then (1:Int) else 0)=v) (pa:Option Addr) (pc:Nat) (w:World) (hp:V.RepP w (V.In w) pa (fnX a b o)):Calls Tryz.prog 6 #[V.kpV pa 2 pc 1,.int .i64 99] w fun en w'=>Ext w w'∧∃ eb ec x2 x3 x4 x5 x6 x7,en = .returned (.tuple #[V.trV (some ⟨eb,0,none⟩) n ec (.int .i64 1) (.int .i64 v) (.complex .f64 x2 x3) (.string x4) (.slice x5 x6 x7) 0,.int .i64 0])∧∀ (j:Nat),j < n→w'.cell? ⟨eb,j * 7,none⟩=some (.int .i64 (if j % 2=0 then 1 else 2)):=by
 subst hn hv;refine Calls.mono (run_X a b o pa pc w hp) ?_;rintro en w' ⟨hX,eb,ec,x2,x3,x4,x5,x6,x7,e,h⟩;refine⟨hX,eb,ec,x2,x3,x4,x5,x6,x7,e,fun j hj => ?_⟩;obtain⟨ev,h1,h2⟩:=ev_kX a b o j hj;rw[← h2];exact h j ev h1
theorem shorts_walk (a b o:Bool) (w:World):Calls Tryz.prog 3 #[.bool a,.bool b,.bool o] w fun e w'=>e = .returned (.bool true)∧Ext w w':=by
 have HA:=zh (fun W=>awake9x_w W);have HM:=fun (a b o:Bool)=>zh (fun (s:ByteArray) (W:World) (hs:s=⟨(txX a b o).toArray⟩)=>made_X a b o s hs W);have HR:=fun (a b o:Bool) (n:Nat) (v:Int) hn hv=>zh (fun pa pc W hp=>run_n a b o n v hn hv pa pc W hp);cases a <;> cases b <;> cases o
 ·exact s_fff _ w (HM _ _ _) (HR _ _ _ 2 0 rfl rfl) HA
 ·exact s_fft _ w (HM _ _ _) (HR _ _ _ 4 0 rfl rfl) HA
 ·exact s_ftf _ w (HM _ _ _) (HR _ _ _ 2 0 rfl rfl) HA
 ·exact s_ftt _ w (HM _ _ _) (HR _ _ _ 4 1 rfl rfl) HA
 ·exact s_tff _ w (HM _ _ _) (HR _ _ _ 4 0 rfl rfl) HA
 ·exact s_tft _ w (HM _ _ _) (HR _ _ _ 2 1 rfl rfl) HA
 ·exact s_ttf _ w (HM _ _ _) (HR _ _ _ 4 1 rfl rfl) HA
 ·exact s_ttt _ w (HM _ _ _) (HR _ _ _ 2 1 rfl rfl) HA
end
end Go.Proofs.YtjnpehohialmbaaGreat
