/- Layer 20: the live question. -/
import Derived.Test.YtcdmojimdiiepaaTechEV
namespace Go.Proofs.Ytcdmojimdiiepaa
open Go.ChangeShapes Go.WideShapes Go.ChangeAt Go.RowKit
set_option linter.unusedVariables false
set_option linter.unusedSimpArgs false

end Go.Proofs.Ytcdmojimdiiepaa
