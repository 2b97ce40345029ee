/- Layer 18: the law RuleChannels. -/
import Derived.Test.YtkipocfdgekkfaaRuleH
import Derived.Test.YtkipocfdgekkfaaRuleX
namespace Go.Proofs.Ytkipocfdgekkfaa
open Go.ChangeShapes Go.WideShapes Go.ChangeAt Go.RowKit
set_option linter.unusedVariables false
set_option linter.unusedSimpArgs false

theorem walk_RuleChannels (v : Value) (z : Int × Bool × List T) (vc : Value) (cs : List Cl) (v2 : Value) (cs2 : List Cl) (w : World) (h0 : RuleV w v z) (h1 : CellsV w vc cs) (h2 : CellsV w v2 cs2) :
    Calls Try.prog 5 #[v, vc, v2] w fun e w' => e = .returned (.bool true) ∧ Below w.heap.size w w' := walkH_RuleChannels head_any v z vc cs v2 cs2 w h0 h1 h2
end Go.Proofs.Ytkipocfdgekkfaa
