/- Layer 18: the law RuleKnown. -/
import Derived.Test.YtkipocfdgekkfaaRuleH
import Derived.Test.YtkipocfdgekkfaaRuleK
namespace Go.Proofs.Ytkipocfdgekkfaa
open Go.ChangeShapes Go.WideShapes Go.ChangeAt Go.RowKit
set_option linter.unusedVariables false
set_option linter.unusedSimpArgs false

theorem walk_RuleKnown (v : Value) (z : Int × Bool × List T) (vc : Value) (cs : List Cl) (vl : Value) (li : List Int) (w : World) (h0 : RuleV w v z) (h1 : CellsV w vc cs) (h2 : Ints .i64 w vl li) :
    Calls Try.prog 4 #[v, vc, vl] w fun e w' => e = .returned (.bool true) ∧ Below w.heap.size w w' := walkH_RuleKnown head_any v z vc cs vl li w h0 h1 h2
end Go.Proofs.Ytkipocfdgekkfaa
