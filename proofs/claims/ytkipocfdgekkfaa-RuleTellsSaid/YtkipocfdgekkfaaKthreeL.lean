/- Layer 17: the laws, walked. -/
import Derived.Test.YtkipocfdgekkfaaKthree
namespace Go.Proofs.Ytkipocfdgekkfaa
open Go.ChangeShapes Go.WideShapes Go.ChangeAt Go.RowKit
set_option linter.unusedVariables false
set_option linter.unusedSimpArgs false

theorem tr1 : tr 1 = 1 := rfl
theorem tr2 : tr 2 = 2 := rfl
theorem tr3 : tr 3 = 3 := rfl
theorem tr7 : tr 7 = 3 := rfl
theorem tr_id {a : Int} (h : Tr a) : tr a = a := by rcases h with rfl | rfl | rfl <;> rfl

theorem truth_tr (x : Int) : Tr (x % 3 + 1) := by unfold Tr; omega

/-- what And, Or and Not keep, of three truths -/
theorem laws3 (a b c : Int) (ha : Tr a) (hb : Tr b) (hc : Tr c) :
    and3 b a = and3 a b ∧ or3 b a = or3 a b ∧ and3 (and3 a b) c = and3 a (and3 b c) ∧ or3 (or3 a b) c = or3 a (or3 b c) ∧
    or3 (and3 a b) (and3 a c) = and3 a (or3 b c) ∧ or3 (not3 a) (not3 b) = not3 (and3 a b) ∧ not3 (not3 a) = a ∧ and3 a (or3 a b) = a ∧ and3 a a = a := by
  rcases ha with rfl | rfl | rfl <;> rcases hb with rfl | rfl | rfl <;> rcases hc with rfl | rfl | rfl <;> decide
theorem not_tr (a : Int) (ha : Tr a) : Tr (not3 a) := by unfold not3 Tr; (repeat' split) <;> omega

end Go.Proofs.Ytkipocfdgekkfaa
