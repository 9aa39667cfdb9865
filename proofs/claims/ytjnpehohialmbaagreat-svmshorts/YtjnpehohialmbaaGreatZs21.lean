/- The document's Program and parse.Program at any text;two programs that are one. -/
import Derived.Test.YtjnpehohialmbaaGreatZs20
set_option linter.unusedSimpArgs false
set_option linter.unusedVariables false
set_option maxRecDepth 10000
namespace Go.Proofs.YtjnpehohialmbaaGreat
open Go.RowKit
section
theorem rprog_any (s:ByteArray) (f:Nat) (w:World) (hmax:s.size≤9223372036854775807) (hf:(begP s).ts.length < f) (hf2:f≤90000):Calls Tryz.prog 8 #[.string s] w (RToldF (rdP s f) w):=by
 by_cases hs:4000 < s.size
 ·have hb:=begP_long hs
  have hx:=rd_bad (s:=s) (f:=f) (by rw[hb];exact⟨fun e=>absurd e (show ¬ (2:Int)=0 by decide),fun _=>rfl⟩) (by rw[hb];exact(show ¬ (2:Int)=0 by decide));rw[hb] at hx;refine rprog_err s f w 0 2 (by decide) hx fun W=>Calls.mono (rtokens_any s W (by omega)) ?_;rintro e w' (⟨_,he,hw⟩ | ⟨h9,_⟩ | ⟨h9,_⟩)
  ·exact⟨he,hw⟩
  ·omega
  ·omega
 ·cases hn:(lexF (s.size+1) s 0).2 with
  | some b =>
   have hb:=begP_bad (by omega) hn;have hx:=rd_bad (s:=s) (f:=f) (by rw[hb];exact⟨fun e=>absurd e (show ¬ (10:Int)=0 by decide),fun _=>rfl⟩) (by rw[hb];exact(show ¬ (10:Int)=0 by decide));rw[hb] at hx;refine rprog_err s f w b 10 (by decide) hx fun W=>Calls.mono (rtokens_any s W (by omega)) ?_;rintro e w' (⟨h9,_⟩ | ⟨_,b2,h9,he,hw⟩ | ⟨_,h9,_⟩)
   ·omega
   ·rw[hn] at h9
    injection h9 with h9;subst h9;exact⟨he,hw⟩
   ·rw[hn] at h9;cases h9
  | none=>exact rprog_ok s f w (by omega) hn hf hf2
end
end Go.Proofs.YtjnpehohialmbaaGreat
