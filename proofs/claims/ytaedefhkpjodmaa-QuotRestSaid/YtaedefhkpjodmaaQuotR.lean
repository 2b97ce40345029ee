/- Layer 9: the law of what is left, walked. -/
import Derived.Test.YtaedefhkpjodmaaQuotL
namespace Go.Proofs.Ytaedefhkpjodmaa
open Go.ChangeShapes Go.WideShapes Go.ChangeAt Go.RowKit
set_option linter.unusedVariables false
set_option linter.unusedSimpArgs false

theorem tdiv_mul (b q : Int) (hb : 1 ≤ b) : (b * q).tdiv b = q := Int.mul_tdiv_cancel_left q (by omega)

set_option maxHeartbeats 1000000 in
theorem walk_QuotRest (a b : Int) (w : World) (w0 : (Lit.int .i64 a).wf = true) (w1 : (Lit.int .i64 b).wf = true) :
    Calls Try.prog 4 #[.int .i64 a, .int .i64 b] w fun e w' => e = .returned (.bool true) ∧ Below w.heap.size w w' := by
  clear w0 w1
  go_enter Try.func4, Try.ntmps4
  go_wp2_with fail
  refine (head_any _).mono ?_
  rintro e w1 ⟨rfl, hb1⟩
  go_wp2_with fail
  refine (good_any a b _).mono ?_
  rintro e w2 ⟨rfl, rfl⟩
  rcases hg : goodB a b with _ | _
  · go_wp2
    go_ret
    exact ⟨rfl, hb1⟩
  have hp := goodP hg
  have hF := fl_t a b hp.2.2.1
  have hC := ce_t a b hp.2.2.1
  have hr := t_rest a b hp.2.2.1
  have hlo := t_lo a b hp.2.2.1
  have hhi := t_hi a b hp.2.2.1
  by_cases ha : a < 0
  · have hn := t_neg a b ha
    by_cases h0 : a.tmod b = 0
    · have e1 : fl a b = a.tdiv b := by rw [hF, if_neg (by omega)]
      have e2 : ce a b = a.tdiv b := by rw [hC, if_neg (by omega)]
      clear hF hC hr hlo hhi hn
      go_wp2_with fail
      refine (floor_any _ _ _ (by omega) (by omega) (by omega) (by omega)).mono ?_
      rintro e w2 ⟨rfl, hb2⟩
      go_wp2_with fail
      refine (ceil_any _ _ _ (by omega) (by omega) (by omega) (by omega)).mono ?_
      rintro e w3 ⟨rfl, hb3⟩
      go_wp2
      go_ret
      exact ⟨by simp, Btrans hb1 (Btrans hb2 hb3)⟩
    · have e1 : fl a b = a.tdiv b - 1 := by rw [hF, if_pos (by omega)]
      have e2 : ce a b = a.tdiv b := by rw [hC, if_neg (by omega)]
      have e3 : (a - (a.tmod b + b)).tdiv b = a.tdiv b - 1 := by
        rw [show a - (a.tmod b + b) = b * (a.tdiv b - 1) from by rw [Int.mul_sub]; omega]
        exact tdiv_mul b _ hp.2.2.1
      have e4 : (a - (a.tmod b + b) + b).tdiv b = a.tdiv b := by
        rw [show a - (a.tmod b + b) + b = b * a.tdiv b from by omega]
        exact tdiv_mul b _ hp.2.2.1
      have h1 : (a.tmod b + b == 0) = false := by simp; omega
      have h2 : a.tmod b < 0 := by omega
      clear hF hC hr h0
      have hq := t_div_neg a b hp.2.2.1 ha
      generalize hrr : a.tmod b = r at *
      generalize hqq : a.tdiv b = q at *
      have E1 := Lib.hid e1
      have E2 := Lib.hid e2
      clear e1 e2
      go_wp2_with fail
      refine (floor_any _ _ _ (by omega) (by omega) (by omega) (by omega)).mono ?_
      rintro e w2 ⟨rfl, hb2⟩
      go_wp2_with fail
      refine (ceil_any _ _ _ (by omega) (by omega) (by omega) (by omega)).mono ?_
      rintro e w3 ⟨rfl, hb3⟩
      rw [E1.out, E2.out]
      go_wp2
      go_ret
      exact ⟨by simp, Btrans hb1 (Btrans hb2 hb3)⟩
  · have hn := Int.emod_nonneg a (b := b) (by omega)
    have hd : a % b ≤ a := by
      have h1 := Int.mul_ediv_add_emod a b
      have h2 := Int.mul_nonneg (show (0 : Int) ≤ b by omega) (Int.ediv_nonneg (show 0 ≤ a by omega) (show 0 ≤ b by omega))
      omega
    have t1 : a.tdiv b = a / b := Int.tdiv_eq_ediv_of_nonneg (by omega)
    have t2 : a.tmod b = a % b := Int.tmod_eq_emod_of_nonneg (by omega)
    rw [t1, t2] at hF hC hr
    rw [t2] at hlo hhi
    clear t1 t2
    by_cases h0 : a % b = 0
    · have e1 : fl a b = a / b := by rw [hF, if_neg (by omega)]
      have e2 : ce a b = a / b := by rw [hC, if_neg (by omega)]
      clear hF hC hr hlo hhi hn
      go_wp2_with fail
      refine (floor_any _ _ _ (by omega) (by omega) (by omega) (by omega)).mono ?_
      rintro e w2 ⟨rfl, hb2⟩
      go_wp2_with fail
      refine (ceil_any _ _ _ (by omega) (by omega) (by omega) (by omega)).mono ?_
      rintro e w3 ⟨rfl, hb3⟩
      go_wp2
      go_ret
      exact ⟨by simp, Btrans hb1 (Btrans hb2 hb3)⟩
    · have e1 : fl a b = a / b := by rw [hF, if_neg (by omega)]
      have e2 : ce a b = a / b + 1 := by rw [hC, if_pos (by omega)]
      have e3 : (a - a % b) / b = a / b := by
        rw [show a - a % b = b * (a / b) from by omega]
        exact Int.mul_ediv_cancel_left _ (by omega)
      have e4 : (a - a % b + b) / b = a / b + 1 := by
        rw [show a - a % b + b = b * (a / b + 1) from by rw [Int.mul_add]; omega]
        exact Int.mul_ediv_cancel_left _ (by omega)
      have h1 : (a % b == 0) = false := by simp; omega
      clear hF hC hr h0
      go_wp2_with fail
      refine (floor_any _ _ _ (by omega) (by omega) (by omega) (by omega)).mono ?_
      rintro e w2 ⟨rfl, hb2⟩
      go_wp2_with fail
      refine (ceil_any _ _ _ (by omega) (by omega) (by omega) (by omega)).mono ?_
      rintro e w3 ⟨rfl, hb3⟩
      go_wp2
      go_ret
      exact ⟨by simp, Btrans hb1 (Btrans hb2 hb3)⟩
end Go.Proofs.Ytaedefhkpjodmaa
