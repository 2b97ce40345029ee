import Derived.Test.YtffpgocacdnfeaaQuotB
namespace Go.Proofs.Ytffpgocacdnfeaa
open Go.ChangeShapes Go.WideShapes Go.ChangeAt Go.RowKit
set_option linter.unusedVariables false
set_option linter.unusedSimpArgs false

theorem rfloor_any (a b : Int) (w : World) (h1 : -4611686018427387904 ≤ a) (h2 : a ≤ 4611686018427387904) (hb : 1 ≤ b) (hc : b ≤ 4611686018427387904) :
    Calls Try.prog 22 #[.int .i64 a, .int .i64 b] w fun e w' => e = .returned (.int .i64 (fl a b)) ∧ w = w' := by
  have HF := Lib.hid (fl_t a b hb)
  have hlo := t_lo a b hb
  have hhi := t_hi a b hb
  by_cases ha : a < 0
  · have hq := t_div_neg a b hb ha
    have hr := t_neg a b ha
    have hqb : a.tdiv b * b = a - a.tmod b := by have := t_rest a b hb; rw [Int.mul_comm]; omega
    go_enter Try.func22, Try.ntmps22
    go_wp2
    all_goals
      go_ret
      refine ⟨?_, rfl⟩
      simp
      rw [HF.out]
      split <;> omega
  · have HG := Lib.hid (show fl a b = a / b from rfl)
    have hem := Int.emod_nonneg a (b := b) (by omega)
    have hem2 := Int.emod_lt_of_pos a (b := b) (by omega)
    have hqb : a / b * b = a - a % b := by have := Int.mul_ediv_add_emod a b; rw [Int.mul_comm]; omega
    go_enter Try.func22, Try.ntmps22
    go_wp2
    go_ret
    refine ⟨?_, rfl⟩
    simp
    rw [HG.out]

end Go.Proofs.Ytffpgocacdnfeaa
