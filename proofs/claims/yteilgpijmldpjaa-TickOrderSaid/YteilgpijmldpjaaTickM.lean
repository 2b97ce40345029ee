/- Layer 11: more laws, walked. -/
import Derived.Test.YteilgpijmldpjaaTickL
namespace Go.Proofs.Yteilgpijmldpjaa
open Go.ChangeShapes Go.WideShapes Go.ChangeAt Go.RowKit
set_option linter.unusedVariables false
set_option linter.unusedSimpArgs false

theorem tk_neg (p k r : Int) (hp : 1 ≤ p) (h0 : 0 ≤ r) (h1 : r < p) : tk p (-(p * k + r)) = if 2 * r = p then 1 - tk p (p * k + r) else -(tk p (p * k + r)) := by
  rw [tk_parts p k r hp h0 h1]
  by_cases hr : r = 0
  · subst hr
    rw [show -(p * k + 0) = p * (-k) + 0 from by rw [Int.mul_neg]; omega, tk_parts p (-k) 0 hp (by omega) (by omega)]
    (repeat' split) <;> omega
  · have e : p * (-k - 1) = -(p * k) - p := by rw [Int.mul_sub, Int.mul_neg]; omega
    rw [show -(p * k + r) = p * (-k - 1) + (p - r) from by rw [e]; omega, tk_parts p (-k - 1) (p - r) hp (by omega) (by omega)]
    (repeat' split) <;> omega

set_option maxHeartbeats 1000000 in
theorem walk_TickNear (p m : Int) (w : World) (w0 : (Lit.int .i64 p).wf = true) (w1 : (Lit.int .i64 m).wf = true) :
    Calls Try.prog 4 #[.int .i64 p, .int .i64 m] w fun e w' => e = .returned (.bool true) ∧ Below w.heap.size w w' := by
  clear w0 w1
  go_enter Try.func4, Try.ntmps4
  go_wp2_with fail
  refine (head_any _).mono ?_
  rintro e w1 ⟨rfl, hb1⟩
  go_wp2_with fail
  refine (timed_any _ _).mono ?_
  rintro e w2 ⟨rfl, rfl⟩
  rcases hg : timedB m with _ | _
  · go_wp2
    go_ret
    exact ⟨rfl, hb1⟩
  have p1 := timedP hg
  go_wp2_with fail
  refine (period_any _ _).mono ?_
  rintro e w2 ⟨rfl, rfl⟩
  rcases hh : periodB p with _ | _
  · go_wp2
    go_ret
    exact ⟨rfl, hb1⟩
  have p2 := periodP hh
  go_wp2_with fail
  refine (parts_any _ _ _ p2.1 p2.2 p1.1 p1.2).mono ?_
  rintro e w2 ⟨rfl, rfl⟩
  have hd := Int.mul_ediv_add_emod m p
  have h0 := Int.emod_nonneg m (b := p) (by omega)
  have h1 := Int.emod_lt_of_pos m (b := p) (by omega)
  have ht := tk_neg p (m / p) (m % p) p2.1 h0 h1
  rw [hd] at ht
  have hbd := tk_bd p m p2.1 p2.2 (by omega) (by omega)
  clear hd
  generalize m / p = k at *
  generalize m % p = r at *
  by_cases hr : 2 * r = p
  · rw [if_pos hr] at ht
    have hr2 : (2 * r == p) = true := by simp [hr]
    have HR := Lib.hid hr
    clear hr
    go_wp2_with fail
    refine (near_any _ _ _ p2.1 p2.2 (by omega) (by omega)).mono ?_
    rintro e w2 ⟨rfl, hb2⟩
    go_wp2_with fail
    refine (near_any _ _ _ p2.1 p2.2 (by omega) (by omega)).mono ?_
    rintro e w3 ⟨rfl, hb3⟩
    go_wp2
    go_ret
    exact ⟨by simp, Btrans hb1 (Btrans hb2 hb3)⟩
  · rw [if_neg hr] at ht
    have hr2 : (2 * r == p) = false := by simp [hr]
    clear hr
    go_wp2_with fail
    refine (near_any _ _ _ p2.1 p2.2 (by omega) (by omega)).mono ?_
    rintro e w2 ⟨rfl, hb2⟩
    go_wp2_with fail
    refine (near_any _ _ _ p2.1 p2.2 (by omega) (by omega)).mono ?_
    rintro e w3 ⟨rfl, hb3⟩
    go_wp2
    go_ret
    exact ⟨by simp, Btrans hb1 (Btrans hb2 hb3)⟩

set_option maxHeartbeats 1000000 in
theorem walk_TickOrder (p m n : Int) (w : World) (w0 : (Lit.int .i64 p).wf = true) (w1 : (Lit.int .i64 m).wf = true) (w2 : (Lit.int .i64 n).wf = true) :
    Calls Try.prog 7 #[.int .i64 p, .int .i64 m, .int .i64 n] w fun e w' => e = .returned (.bool true) ∧ Below w.heap.size w w' := by
  have hb0 := bounds_i64 w0
  have hm0 := bounds_i64 w1
  clear w0 w1 w2
  go_enter Try.func7, Try.ntmps7
  go_wp2_with fail
  refine (head_any _).mono ?_
  rintro e w1 ⟨rfl, hb1⟩
  go_wp2_with fail
  refine (timed_any _ _).mono ?_
  rintro e w2 ⟨rfl, rfl⟩
  rcases hg : timedB m with _ | _
  · go_wp2
    go_ret
    exact ⟨rfl, hb1⟩
  have p1 := timedP hg
  go_wp2_with fail
  refine (timed_any _ _).mono ?_
  rintro e w2 ⟨rfl, rfl⟩
  rcases hn : timedB n with _ | _
  · go_wp2
    go_ret
    exact ⟨rfl, hb1⟩
  have p3 := timedP hn
  go_wp2_with fail
  refine (period_any _ _).mono ?_
  rintro e w2 ⟨rfl, rfl⟩
  rcases hh : periodB p with _ | _
  · go_wp2
    go_ret
    exact ⟨rfl, hb1⟩
  have p2 := periodP hh
  go_wp2_with fail
  refine (timed_any _ _).mono ?_
  rintro e w2 ⟨rfl, rfl⟩
  rcases hi : timedB (m + p) with _ | _
  · go_wp2
    go_ret
    exact ⟨rfl, hb1⟩
  have p4 := timedP hi
  have hs := tk_step p m p2.1
  have hbd := tk_bd p m p2.1 p2.2 (by omega) (by omega)
  by_cases hmn : n < m
  · go_wp2_with fail
    refine (near_any _ _ _ p2.1 p2.2 (by omega) (by omega)).mono ?_
    rintro e w2 ⟨rfl, hb2⟩
    go_wp2_with fail
    refine (near_any _ _ _ p2.1 p2.2 (by omega) (by omega)).mono ?_
    rintro e w3 ⟨rfl, hb3⟩
    go_wp2
    go_ret
    exact ⟨by simp, Btrans hb1 (Btrans hb2 hb3)⟩
  · have hmo := tk_mono p m n p2.1 (by omega)
    go_wp2_with fail
    refine (near_any _ _ _ p2.1 p2.2 (by omega) (by omega)).mono ?_
    rintro e w2 ⟨rfl, hb2⟩
    go_wp2_with fail
    refine (near_any _ _ _ p2.1 p2.2 (by omega) (by omega)).mono ?_
    rintro e w3 ⟨rfl, hb3⟩
    go_wp2_with fail
    refine (near_any _ _ _ p2.1 p2.2 (by omega) (by omega)).mono ?_
    rintro e w4 ⟨rfl, hb4⟩
    go_wp2_with fail
    refine (near_any _ _ _ p2.1 p2.2 (by omega) (by omega)).mono ?_
    rintro e w5 ⟨rfl, hb5⟩
    go_wp2
    go_ret
    exact ⟨by simp, Btrans hb1 (Btrans hb2 (Btrans hb3 (Btrans hb4 hb5)))⟩
end Go.Proofs.Yteilgpijmldpjaa
