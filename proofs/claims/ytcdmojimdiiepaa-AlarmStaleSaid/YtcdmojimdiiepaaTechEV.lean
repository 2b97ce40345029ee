/- Layer 20: the document talarms. -/
import Derived.Test.YtcdmojimdiiepaaTechDV
namespace Go.Proofs.Ytcdmojimdiiepaa
open Go.ChangeShapes Go.WideShapes Go.ChangeAt Go.RowKit
set_option linter.unusedVariables false
set_option linter.unusedSimpArgs false


end Go.Proofs.Ytcdmojimdiiepaa
