/- Layer 18: the law RuleSpoilt. -/
import Derived.Test.YtkipocfdgekkfaaRuleH
import Derived.Test.YtkipocfdgekkfaaRuleW
namespace Go.Proofs.Ytkipocfdgekkfaa
open Go.ChangeShapes Go.WideShapes Go.ChangeAt Go.RowKit
set_option linter.unusedVariables false
set_option linter.unusedSimpArgs false

theorem walk_RuleSpoilt (v : Value) (z : Int × Bool × List T) (vc : Value) (cs : List Cl) (w : World) (h0 : RuleV w v z) (h1 : CellsV w vc cs) :
    Calls Try.prog 8 #[v, vc] w fun e w' => e = .returned (.bool true) ∧ Below w.heap.size w w' := walkH_RuleSpoilt head_any v z vc cs w h0 h1
end Go.Proofs.Ytkipocfdgekkfaa
