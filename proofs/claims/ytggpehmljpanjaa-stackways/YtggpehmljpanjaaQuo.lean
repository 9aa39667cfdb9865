/- What the program's and the document's quotients give: the same functions of the parts' words. -/
import Derived.Test.YtggpehmljpanjaaArith
set_option linter.unusedSimpArgs false
set_option linter.unusedVariables false
namespace Go.Proofs.Ytggpehmljpanjaa

end Go.Proofs.Ytggpehmljpanjaa
