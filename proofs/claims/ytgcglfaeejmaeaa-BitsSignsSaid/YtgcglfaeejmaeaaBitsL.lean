/- The laws of layer 1, walked. -/
import Derived.Test.YtgcglfaeejmaeaaBitsH
namespace Go.Proofs.Ytgcglfaeejmaeaa
open Go.ChangeShapes Go.WideShapes Go.ChangeAt Go.RowKit
set_option linter.unusedVariables false

theorem sgn_1 {n : Int} (h : n < 0 ∨ 65536 ≤ n) : sgn n = 0 := by unfold sgn; rw [if_pos h]
theorem sgn_2 {n : Int} (h : 0 ≤ n ∧ n < 32768) : sgn n = n := by unfold sgn; rw [if_neg (by omega), if_neg (by omega)]
theorem sgn_3 {n : Int} (h : 32768 ≤ n ∧ n < 65536) : sgn n = n - 65536 := by unfold sgn; rw [if_neg (by omega), if_pos (by omega)]
theorem bre_1 {n : Int} (h : n < -32768 ∨ 32768 ≤ n) : bre n = 0 := by unfold bre; rw [if_pos h]
theorem bre_2 {n : Int} (h : 0 ≤ n ∧ n < 32768) : bre n = n := by unfold bre; rw [if_neg (by omega), if_neg (by omega)]
theorem bre_3 {n : Int} (h : -32768 ≤ n ∧ n < 0) : bre n = n + 65536 := by unfold bre; rw [if_neg (by omega), if_pos (by omega)]

set_option maxHeartbeats 1000000 in
theorem walk_BitsSigns (n : Int) (w : World) (w0 : (Lit.int .i64 n).wf = true) :
    Calls Try.prog 7 #[.int .i64 n] w fun e w' => e = .returned (.bool true) ∧ Below w.heap.size w w' := by
  clear w0
  rcases (by omega : n < -32768 ∨ (-32768 ≤ n ∧ n < 0) ∨ (0 ≤ n ∧ n < 32768) ∨ (32768 ≤ n ∧ n < 65536) ∨ 65536 ≤ n) with h | h | h | h | h
  case' inl =>
    have hs : sgn n = 0 := sgn_1 (by omega)
    have hb : bre n = 0 := bre_1 (by omega)
    have hsb : sgn (0) = 0 := rfl
  case' inr.inl =>
    have hs : sgn n = 0 := sgn_1 (by omega)
    have hb : bre n = n + 65536 := bre_3 (by omega)
    have hsb : sgn (n + 65536) = n := by rw [sgn_3 (by omega)]; omega
  case' inr.inr.inl =>
    have hs : sgn n = n := sgn_2 (by omega)
    have hb : bre n = n := bre_2 (by omega)
    have hsb : sgn 0 = 0 := rfl
  case' inr.inr.inr.inl =>
    have hs : sgn n = n - 65536 := sgn_3 (by omega)
    have hb : bre n = 0 := bre_1 (by omega)
    have hsb : bre (n - 65536) = n := by rw [bre_3 (by omega)]; omega
  case' inr.inr.inr.inr =>
    have hs : sgn n = 0 := sgn_1 (by omega)
    have hb : bre n = 0 := bre_1 (by omega)
    have hsb : sgn 0 = 0 := rfl
  all_goals
    go_enter Try.func7, Try.ntmps7
    go_wp2_with (first | (go_at_call 9; refine (head_any _).mono ?_; rintro e w1 ⟨rfl, hb1⟩) | (go_at_call 15; refine (sign_any _ _).mono ?_; rintro e w2 ⟨rfl, rfl⟩) | (go_at_call 17; refine (bare_any _ _).mono ?_; rintro e w2 ⟨rfl, rfl⟩))
    go_ret
    exact ⟨by simp [*], hb1⟩
end Go.Proofs.Ytgcglfaeejmaeaa
