/- Layer 14: the law BatchTells. -/
import Derived.Test.YtgklbmhihfmagaaBatchY
import Derived.Test.YtgklbmhihfmagaaBatchZ
namespace Go.Proofs.Ytgklbmhihfmagaa
open Go.ChangeShapes Go.WideShapes Go.ChangeAt Go.RowKit Go.Deep

theorem walk_BatchTells (vt : Value) (ts : List TV) (vl : Value) (l : List PV) (w : World) (h0 : TRow w vt ts) (h1 : PRow w vl l) :
    Calls Try.prog 3 #[vt, vl] w fun e w' => e = .returned (.bool true) ∧ Below w.heap.size w w' :=
  walkH_BatchTells (fun w => head_any w) vt ts vl l w h0 h1
end Go.Proofs.Ytgklbmhihfmagaa
