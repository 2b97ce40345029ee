/- Layer 14: the head's packet of a number. -/
import Derived.Test.YtgklbmhihfmagaaBatchA
import Derived.Handy
namespace Go.Proofs.Ytgklbmhihfmagaa
open Go.ChangeShapes Go.WideShapes Go.ChangeAt Go.RowKit Go.Deep
set_option linter.unusedVariables false
set_option linter.unusedSimpArgs false

set_option maxRecDepth 100000 in
set_option maxHeartbeats 4000000 in
theorem one_any (s v : Int) (w : World) :
    Calls Try.prog 18 #[.int .i64 s, .int .i64 v] w fun e w' => ∃ g, e = .returned (.agg #[.int .i64 0, .int .i64 0, .int .i64 0, .int .i64 s, .int .i64 0, .slice (some ⟨g, 0, none⟩) 1 1]) ∧ Row w' (.slice (some ⟨g, 0, none⟩) 1 1) [.int .i64 v] ∧ Below w.heap.size w w' := by
  go_enter Try.func18, Try.ntmps18
  go_wp2
  refine bodyPost_ret (v := .agg #[.int .i64 0, .int .i64 0, .int .i64 0, .int .i64 s, .int .i64 0, .slice (some ⟨w.heap.size + 1, 0, none⟩) 1 1]) (by simp [results, Try.results18, go_sem]) rfl ?_
  refine ⟨w.heap.size + 1, rfl, ?_, by go_grown⟩
  exact Row.new [.int .i64 v] _ 1 (Nat.le_refl _) (by decide) _ _ (by simp)
end Go.Proofs.Ytgklbmhihfmagaa
