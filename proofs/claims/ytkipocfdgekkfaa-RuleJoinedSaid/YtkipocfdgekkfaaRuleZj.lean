/- Layer 18: the law RuleJoined. -/
import Derived.Test.YtkipocfdgekkfaaRuleH
import Derived.Test.YtkipocfdgekkfaaRuleJ
namespace Go.Proofs.Ytkipocfdgekkfaa
open Go.ChangeShapes Go.WideShapes Go.ChangeAt Go.RowKit
set_option linter.unusedVariables false
set_option linter.unusedSimpArgs false

theorem walk_RuleJoined (v : Value) (z : Int × Bool × List T) (v1 : Value) (z1 : Int × Bool × List T) (vc : Value) (cs : List Cl) (w : World) (h0 : RuleV w v z) (h1 : RuleV w v1 z1) (h2 : CellsV w vc cs) :
    Calls Try.prog 6 #[v, v1, vc] w fun e w' => e = .returned (.bool true) ∧ Below w.heap.size w w' := walkH_RuleJoined head_any v z v1 z1 vc cs w h0 h1 h2
end Go.Proofs.Ytkipocfdgekkfaa
