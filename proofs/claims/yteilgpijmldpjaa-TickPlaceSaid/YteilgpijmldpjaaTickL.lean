/- Layer 11: the laws, walked. -/
import Derived.Test.YteilgpijmldpjaaTick
import Derived.Test.YteilgpijmldpjaaConfR
namespace Go.Proofs.Yteilgpijmldpjaa
open Go.ChangeShapes Go.WideShapes Go.ChangeAt Go.RowKit
set_option linter.unusedVariables false
set_option linter.unusedSimpArgs false

set_option maxHeartbeats 1000000 in
theorem head_any (w : World) :
    Calls Try.prog 9 #[] w fun e w' => e = .returned (.bool true) ∧ Below w.heap.size w w' := by
  have a1 : placeN 10 40 21 28 = 2 := by decide
  have a2 : placeO 40 21 28 = true := by decide
  have a3 : placeO 40 0 81 = false := by decide
  have a4 : placeN 10 40 0 80 = 4 := by decide
  have a5 : placeO 40 0 80 = true := by decide
  have a6 : tk 10 25 = 3 := by decide
  have a7 : tk 10 24 = 2 := by decide
  have a8 : tk 10 (-5) = 0 := by decide
  have a9 : tk 10 (-6) = -1 := by decide
  go_enter Try.func9, Try.ntmps9
  go_wp2_with fail
  refine (base_any _).mono ?_
  rintro e w1 ⟨v1, rfl, hv1, hb1⟩
  go_wp2_with fail
  refine (place_any v1 _ 21 28 _ hv1 (by decide) (by decide) (by decide) (by decide) (by omega) (by omega) (by omega) (by omega)).mono ?_
  rintro e w2 ⟨rfl, hb2⟩
  go_wp2_with fail
  refine (base_any _).mono ?_
  rintro e w3 ⟨v3, rfl, hv3, hb3⟩
  go_wp2_with fail
  refine (place_any v3 _ 0 81 _ hv3 (by decide) (by decide) (by decide) (by decide) (by omega) (by omega) (by omega) (by omega)).mono ?_
  rintro e w4 ⟨rfl, hb4⟩
  go_wp2_with fail
  refine (base_any _).mono ?_
  rintro e w5 ⟨v5, rfl, hv5, hb5⟩
  go_wp2_with fail
  refine (place_any v5 _ 0 80 _ hv5 (by decide) (by decide) (by decide) (by decide) (by omega) (by omega) (by omega) (by omega)).mono ?_
  rintro e w6 ⟨rfl, hb6⟩
  go_wp2_with (go_at_call 12; refine (near_any _ _ _ (by omega) (by omega) (by omega) (by omega)).mono ?_; rintro e w7 ⟨rfl, hb7⟩)
  go_ret
  refine ⟨by simp, ?_⟩
  repeat (first | exact Below.refl _ _ | refine Btrans ?_ (by assumption))

def timedB (m : Int) : Bool := decide (-4503599627370496 ≤ m ∧ m ≤ 4503599627370496)
def periodB (p : Int) : Bool := decide (1 ≤ p ∧ p ≤ 1000000)
theorem timedP {m : Int} (h : timedB m = true) : -4503599627370496 ≤ m ∧ m ≤ 4503599627370496 := by unfold timedB at h; simpa using h
theorem periodP {m : Int} (h : periodB m = true) : 1 ≤ m ∧ m ≤ 1000000 := by unfold periodB at h; simpa using h
theorem timed_any (m : Int) (w : World) :
    Calls Try.prog 10 #[.int .i64 m] w fun e w' => e = .returned (.bool (timedB m)) ∧ w = w' := by
  go_enter Try.func10, Try.ntmps10
  go_wp2
  all_goals
    go_ret
    refine ⟨ret_bool ?_, rfl⟩
    unfold timedB
    rw [Bool.eq_iff_iff]
    simp only [decide_eq_true_eq, Bool.false_eq_true]
    first | omega | (constructor <;> intro h <;> first | omega | exact h.elim)
theorem period_any (m : Int) (w : World) :
    Calls Try.prog 11 #[.int .i64 m] w fun e w' => e = .returned (.bool (periodB m)) ∧ w = w' := by
  go_enter Try.func11, Try.ntmps11
  go_wp2
  all_goals
    go_ret
    refine ⟨ret_bool ?_, rfl⟩
    unfold periodB
    rw [Bool.eq_iff_iff]
    simp only [decide_eq_true_eq, Bool.false_eq_true]
    first | omega | (constructor <;> intro h <;> first | omega | exact h.elim)

theorem parts_any (p m : Int) (w : World) (hp : 1 ≤ p) (hp2 : p ≤ 1000000) (h1 : -4503599627370496 ≤ m) (h2 : m ≤ 4503599627370496) :
    Calls Try.prog 18 #[.int .i64 p, .int .i64 m] w fun e w' => e = .returned (.tuple #[.int .i64 (m / p), .int .i64 (m % p)]) ∧ w = w' := by
  have hr := t_rest m p hp
  have hlo := t_lo m p hp
  have hhi := t_hi m p hp
  by_cases ha : m < 0
  · have hn := t_neg m p ha
    have hdn := t_div_neg m p hp ha
    by_cases h0 : m.tmod p = 0
    · have e1 : m / p = m.tdiv p := fl_unique m p _ 0 hp (by omega) (by omega) (by omega)
      have e2 : m % p = 0 := by have := Int.mul_ediv_add_emod m p; rw [e1] at this; omega
      have E1 := Lib.hid e1
      have E2 := Lib.hid e2
      clear e1 e2 hr hlo hhi hn
      go_enter Try.func18, Try.ntmps18
      go_wp2
      go_ret2
      exact ⟨by simp [E1.out, E2.out], rfl⟩
    · have e1 : m / p = m.tdiv p - 1 := fl_unique m p _ (m.tmod p + p) hp (by rw [Int.mul_sub]; omega) (by omega) (by omega)
      have e2 : m % p = m.tmod p + p := by have := Int.mul_ediv_add_emod m p; rw [e1, Int.mul_sub] at this; omega
      have e3 : (m - (m.tmod p + p)).tdiv p = m.tdiv p - 1 := by
        rw [show m - (m.tmod p + p) = p * (m.tdiv p - 1) from by rw [Int.mul_sub]; omega]
        exact Int.mul_tdiv_cancel_left _ (by omega)
      have E1 := Lib.hid e1
      have E2 := Lib.hid e2
      have h2 : m.tmod p < 0 := by omega
      clear e1 e2 hr h0
      generalize hrr : m.tmod p = r at *
      generalize hqq : m.tdiv p = q at *
      go_enter Try.func18, Try.ntmps18
      go_wp2
      go_ret2
      exact ⟨by simp [E1.out, E2.out], rfl⟩
  · have hn := Int.emod_nonneg m (b := p) (by omega)
    have hd : m % p ≤ m := by
      have h1 := Int.mul_ediv_add_emod m p
      have h2 := Int.mul_nonneg (show (0 : Int) ≤ p by omega) (Int.ediv_nonneg (show 0 ≤ m by omega) (show 0 ≤ p by omega))
      omega
    have e3 : (m - m % p) / p = m / p := by
      have h1 := Int.mul_ediv_add_emod m p
      rw [show m - m % p = p * (m / p) from by omega]
      exact Int.mul_ediv_cancel_left _ (by omega)
    clear hr hlo hhi
    go_enter Try.func18, Try.ntmps18
    go_wp2
    go_ret2
    exact ⟨by simp, rfl⟩

set_option maxHeartbeats 1000000 in
theorem walk_TickExact (p m : Int) (w : World) (w0 : (Lit.int .i64 p).wf = true) (w1 : (Lit.int .i64 m).wf = true) :
    Calls Try.prog 6 #[.int .i64 p, .int .i64 m] w fun e w' => e = .returned (.bool true) ∧ Below w.heap.size w w' := by
  clear w0 w1
  go_enter Try.func6, Try.ntmps6
  go_wp2_with fail
  refine (head_any _).mono ?_
  rintro e w1 ⟨rfl, hb1⟩
  go_wp2_with fail
  refine (timed_any _ _).mono ?_
  rintro e w2 ⟨rfl, rfl⟩
  rcases hg : timedB m with _ | _
  · go_wp2
    go_ret
    exact ⟨rfl, hb1⟩
  have p1 := timedP hg
  go_wp2_with fail
  refine (period_any _ _).mono ?_
  rintro e w2 ⟨rfl, rfl⟩
  rcases hh : periodB p with _ | _
  · go_wp2
    go_ret
    exact ⟨rfl, hb1⟩
  have p2 := periodP hh
  go_wp2_with fail
  refine (parts_any _ _ _ p2.1 p2.2 p1.1 p1.2).mono ?_
  rintro e w2 ⟨rfl, rfl⟩
  have hd := Int.mul_ediv_add_emod m p
  have h0 := Int.emod_nonneg m (b := p) (by omega)
  have h1 := Int.emod_lt_of_pos m (b := p) (by omega)
  have ht := tk_parts p (m / p) (m % p) p2.1 h0 h1
  rw [hd] at ht
  have hbd := fl_bd m p (by omega) (by omega) p2.1
  unfold fl at hbd
  clear hd
  generalize m / p = k at *
  generalize m % p = r at *
  by_cases hr : 2 * r < p
  · rw [if_pos hr] at ht
    go_wp2_with fail
    refine (near_any _ _ _ p2.1 p2.2 (by omega) (by omega)).mono ?_
    rintro e w2 ⟨rfl, hb2⟩
    go_wp2
    go_ret
    exact ⟨by simp, Btrans hb1 hb2⟩
  · rw [if_neg hr] at ht
    go_wp2_with fail
    refine (near_any _ _ _ p2.1 p2.2 (by omega) (by omega)).mono ?_
    rintro e w2 ⟨rfl, hb2⟩
    go_wp2
    go_ret
    exact ⟨by simp, Btrans hb1 hb2⟩
end Go.Proofs.Yteilgpijmldpjaa
