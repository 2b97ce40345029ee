/- Layer 5: the live question. -/
import Derived.Test.YtcdmojimdiiepaaConfH
namespace Go.Proofs.Ytcdmojimdiiepaa
open Go.ChangeShapes Go.WideShapes Go.ChangeAt Go.RowKit
set_option linter.unusedVariables false
set_option linter.unusedSimpArgs false

def baseC : Cf := ⟨10, 3, 8, 0, 15, 100, 40, 16, 2, [[10, 5], [20]]⟩
def zeroC : Cf := ⟨0, 0, 0, 0, 0, 0, 0, 0, 0, []⟩
theorem base_c (w : World) : Calls Try.prog 51 #[] w fun e w' => ∃ v, e = .returned v ∧ IsConf w' v baseC ∧ Below w.heap.size w w' := base_any w
theorem zero_c (w : World) : IsConf w (.agg #[.int .i64 0, .int .i64 0, .int .i64 0, .int .i64 0, .int .i64 0, .int .i64 0, .int .i64 0, .int .i64 0, .int .i64 0, .slice none 0 0, .slice none 0 0]) zeroC :=
  ⟨_, _, rfl, [], Row.nil_, rfl, by simp [zeroC]⟩
theorem right1 (v : Value) (w : World) (h : IsConf w v baseC) : Calls Try.prog 30 #[v] w fun e w' => e = .returned (.bool true) ∧ Below w.heap.size w w' :=
  (right_any v baseC w h).mono fun e w' ⟨he, hb⟩ => ⟨by rw [he, show confO baseC = true by decide], hb⟩
theorem right0 (v : Value) (w : World) (h : IsConf w v zeroC) : Calls Try.prog 30 #[v] w fun e w' => e = .returned (.bool false) ∧ Below w.heap.size w w' :=
  (right_any v zeroC w h).mono fun e w' ⟨he, hb⟩ => ⟨by rw [he, show confO zeroC = false by decide], hb⟩
theorem many3 (v : Value) (w : World) (h : IsConf w v baseC) : Calls Try.prog 32 #[v] w fun e w' => e = .returned (.int .i64 3) ∧ Below w.heap.size w w' :=
  (many_any v baseC w h (by decide)).mono fun e w' ⟨he, hb⟩ => ⟨by rw [he, show (chansOf baseC.rows).length = 3 by decide]; rfl, hb⟩
end Go.Proofs.Ytcdmojimdiiepaa
