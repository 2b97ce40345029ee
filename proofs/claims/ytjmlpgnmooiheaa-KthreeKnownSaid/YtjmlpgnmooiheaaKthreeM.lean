/- Layer 17: more laws, walked. -/
import Derived.Test.YtjmlpgnmooiheaaKthreeL
namespace Go.Proofs.Ytjmlpgnmooiheaa
open Go.ChangeShapes Go.WideShapes Go.ChangeAt Go.RowKit
set_option linter.unusedVariables false
set_option linter.unusedSimpArgs false

set_option maxHeartbeats 2000000 in
theorem walk_KthreeKnown (x y : Int) (w : World) (w0 : (Lit.int .u8 x).wf = true) (w1 : (Lit.int .u8 y).wf = true) :
    Calls Try.prog 5 #[.int .u8 x, .int .u8 y] w fun e w' => e = .returned (.bool true) ∧ Below w.heap.size w w' := by
  have bx := wf_u8 w0
  have bY := wf_u8 w1
  clear w0 w1
  go_enter Try.func5, Try.ntmps5
  go_wp2_with fail
  refine (head_any _).mono ?_
  rintro e w1 ⟨rfl, hb1⟩
  go_wp2_with fail
  refine (truth_any x _ bx.1 bx.2).mono ?_
  rintro e w2 ⟨rfl, rfl⟩
  go_wp2_with fail
  refine (truth_any y _ bY.1 bY.2).mono ?_
  rintro e w2 ⟨rfl, rfl⟩
  have ta := truth_tr x
  have tb := truth_tr y
  generalize x % 3 + 1 = b at *
  generalize y % 3 + 1 = a at *
  clear bx bY
  rcases ta with rfl | rfl | rfl <;> rcases tb with rfl | rfl | rfl
  all_goals
    try simp only []
    go_wp2_with (first | (go_at_call 12; refine (and_any _ _ _).mono ?_; rintro e w2 ⟨rfl, hb2⟩) | (go_at_call 14; refine (or_any _ _ _).mono ?_; rintro e w2 ⟨rfl, hb2⟩) | (go_at_call 10; refine (not_any _ _).mono ?_; rintro e w2 ⟨rfl, hb2⟩) | (go_at_call 16; refine (of_bool _ _).mono ?_; rintro e w2 ⟨rfl, rfl⟩))
    go_ret
    refine ⟨by simp [tr, and3, or3, not3], ?_⟩
    repeat (first | exact Below.refl _ _ | refine Btrans ?_ (by assumption))

set_option maxHeartbeats 2000000 in
theorem walk_KthreeBools (a b : Bool) (w : World) :
    Calls Try.prog 6 #[.bool a, .bool b] w fun e w' => e = .returned (.bool true) ∧ Below w.heap.size w w' := by
  cases a <;> cases b
  all_goals
    go_enter Try.func6, Try.ntmps6
    go_wp2_with fail
    refine (head_any _).mono ?_
    rintro e w1 ⟨rfl, hb1⟩
    go_wp2_with (first | (go_at_call 12; refine (and_any _ _ _).mono ?_; rintro e w2 ⟨rfl, hb2⟩) | (go_at_call 14; refine (or_any _ _ _).mono ?_; rintro e w2 ⟨rfl, hb2⟩) | (go_at_call 10; refine (not_any _ _).mono ?_; rintro e w2 ⟨rfl, hb2⟩) | (go_at_call 16; refine (of_bool _ _).mono ?_; rintro e w2 ⟨rfl, rfl⟩))
    go_ret
    refine ⟨by simp [tr, and3, or3, not3], ?_⟩
    repeat (first | exact Below.refl _ _ | refine Btrans ?_ (by assumption))
end Go.Proofs.Ytjmlpgnmooiheaa
