/- Layer 18: the law RuleTells. -/
import Derived.Test.YtkipocfdgekkfaaRuleH
import Derived.Test.YtkipocfdgekkfaaRuleY
namespace Go.Proofs.Ytkipocfdgekkfaa
open Go.ChangeShapes Go.WideShapes Go.ChangeAt Go.RowKit
set_option linter.unusedVariables false
set_option linter.unusedSimpArgs false

theorem walk_RuleTells (v : Value) (z : Int × Bool × List T) (n : Int) (vc : Value) (cs : List Cl) (w : World) (h0 : RuleV w v z) (wn : (Lit.int .i64 n).wf = true) (h1 : CellsV w vc cs) :
    Calls Try.prog 3 #[v, .int .i64 n, vc] w fun e w' => e = .returned (.bool true) ∧ Below w.heap.size w w' := walkH_RuleTells head_any v z n vc cs w h0 wn h1
end Go.Proofs.Ytkipocfdgekkfaa
