/- Layer 18: the law RuleLimit. -/
import Derived.Test.YtkipocfdgekkfaaRuleH
import Derived.Test.YtkipocfdgekkfaaRuleL
namespace Go.Proofs.Ytkipocfdgekkfaa
open Go.ChangeShapes Go.WideShapes Go.ChangeAt Go.RowKit
set_option linter.unusedVariables false
set_option linter.unusedSimpArgs false

theorem walk_RuleLimit (ck cv cf n h : Int) (w : World) (w0 : (Lit.int .i64 ck).wf = true) (w1 : (Lit.int .i64 cv).wf = true) (w2 : (Lit.int .i64 cf).wf = true) (w3 : (Lit.int .i32 n).wf = true) (w4 : (Lit.int .u8 h).wf = true) :
    Calls Try.prog 7 #[.agg #[.int .i64 ck, .int .i64 cv, .int .i64 cf], .int .i32 n, .int .u8 h] w fun e w' => e = .returned (.bool true) ∧ Below w.heap.size w w' := walkH_RuleLimit head_any ck cv cf n h w w0 w1 w2 w3 w4
end Go.Proofs.Ytkipocfdgekkfaa
