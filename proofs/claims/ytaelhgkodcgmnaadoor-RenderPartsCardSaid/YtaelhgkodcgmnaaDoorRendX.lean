/- Layer 23: the document's alarm and number. -/
import Derived.Test.YtaelhgkodcgmnaaDoorRendV
namespace Go.Proofs.YtaelhgkodcgmnaaDoor
open Go.ChangeShapes Go.WideShapes Go.ChangeAt Go.RowKit Go.Deep
open Go.Shelf
set_option linter.unusedVariables false
set_option linter.unusedSimpArgs false

set_option maxRecDepth 100000 in
set_option maxHeartbeats 1000000 in
theorem ralarm_any (a b : Bool) (w : World) : Calls Tryd.prog 32 #[.agg #[.bool a, .bool b]] w fun e w' => e = .returned (.string ⟨#[32, alB (a, b)]⟩) ∧ Below w.heap.size w w' := by
  cases a <;> cases b
  all_goals
    go_enter Tryd.func32, Tryd.ntmps32
    go_wp2_with fail
    go_ret
    exact ⟨by rfl, by go_grown⟩
def RNum (l : Str) (e : Ending) : Prop := ∃ v E, e = .returned (.int .i64 v) ∧ AtoiE l v E
set_option maxRecDepth 100000 in
set_option maxHeartbeats 1000000 in
theorem rnumber_any (s : ByteArray) (hlim : s.size ≤ 281474976710656) (w : World) (hE : Env w) :
    Calls Tryd.prog 24 #[.string s] w fun e w' => RNum s.data.toList e ∧ Below w.heap.size w w' := by
  go_enter Tryd.func24, Tryd.ntmps24
  go_wp2_with fail
  go_at_call 39
  refine (atoi_any s hlim w hE).mono ?_
  rintro e w1 ⟨⟨v, E, rfl, hA⟩, hb⟩
  have HA := Lib.hid hA
  clear hA
  go_wp2_with fail
  go_ret
  exact ⟨⟨v, E, by rfl, HA.out⟩, hb⟩
end Go.Proofs.YtaelhgkodcgmnaaDoor
