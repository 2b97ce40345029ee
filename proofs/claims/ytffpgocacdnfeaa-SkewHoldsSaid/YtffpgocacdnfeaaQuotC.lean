import Derived.Test.YtffpgocacdnfeaaQuotG
namespace Go.Proofs.Ytffpgocacdnfeaa
open Go.ChangeShapes Go.WideShapes Go.ChangeAt Go.RowKit
set_option linter.unusedVariables false
set_option linter.unusedSimpArgs false

theorem ceil_any (a b : Int) (w : World) (h1 : -4611686018427387904 ≤ a) (h2 : a ≤ 4611686018427387904) (hb : 1 ≤ b) (hc : b ≤ 4611686018427387904) :
    Calls Try.prog 28 #[.int .i64 a, .int .i64 b] w fun e w' => e = .returned (.int .i64 (ce a b)) ∧ Below w.heap.size w w' := by
  have HF := Lib.hid (ce_t a b hb)
  have hlo := t_lo a b hb
  have hhi := t_hi a b hb
  by_cases ha : a < 0
  · have hq := t_div_neg a b hb ha
    have hr := t_neg a b ha
    go_enter Try.func28, Try.ntmps28
    go_wp2
    all_goals
      go_ret
      refine ⟨?_, (Below.refl _ _).alloc (Nat.le_refl _) _⟩
      simp
      rw [HF.out]
      split <;> omega
  · have hq : a / b ≤ a := Int.ediv_le_self b (by omega)
    have hq0 : 0 ≤ a / b := Int.ediv_nonneg (by omega) (by omega)
    have e1 : a.tdiv b = a / b := Int.tdiv_eq_ediv_of_nonneg (by omega)
    have e2 : a.tmod b = a % b := Int.tmod_eq_emod_of_nonneg (by omega)
    rw [e1, e2] at HF
    rw [e2] at hlo hhi
    clear e1 e2
    go_enter Try.func28, Try.ntmps28
    go_wp2
    all_goals
      go_ret
      refine ⟨?_, (Below.refl _ _).alloc (Nat.le_refl _) _⟩
      simp
      rw [HF.out]
      split <;> omega

theorem drift_any (rho d : Int) (w : World) (h1 : 0 ≤ rho) (h2 : rho ≤ 1000000) (h3 : -2199023255552 ≤ d) (h4 : d ≤ 2199023255552) :
    Calls Try.prog 25 #[.int .i64 rho, .int .i64 d] w fun e w' => e = .returned (.int .i64 (drf rho d)) ∧ Below w.heap.size w w' := by
  have hx : ∀ x : Int, 0 ≤ x → x ≤ 2199023255552 → 0 ≤ rho * x ∧ rho * x ≤ 2199023255552000000 := fun x h0 hx => by
    have ha := Int.mul_nonneg h1 h0
    have hb := Int.mul_le_mul_of_nonneg_right h2 h0
    omega
  by_cases hd : d < 0
  · have hm := hx (-d) (by omega) (by omega)
    have HD := Lib.hid (show drf rho d = ce (rho * -d) 1000000 by unfold drf; rw [if_pos hd])
    clear hx
    go_enter Try.func25, Try.ntmps25
    go_wp2_with (go_at_call 28; refine (ceil_any _ _ _ (by omega) (by omega) (by omega) (by omega)).mono ?_; rintro e w1 ⟨rfl, hb1⟩)
    go_ret
    exact ⟨by rw [HD.out]; rfl, hb1⟩
  · have hm := hx d (by omega) (by omega)
    have HD := Lib.hid (show drf rho d = ce (rho * d) 1000000 by unfold drf; rw [if_neg hd])
    clear hx
    go_enter Try.func25, Try.ntmps25
    go_wp2_with (go_at_call 28; refine (ceil_any _ _ _ (by omega) (by omega) (by omega) (by omega)).mono ?_; rintro e w1 ⟨rfl, hb1⟩)
    go_ret
    exact ⟨by rw [HD.out]; rfl, hb1⟩

theorem rceil_any (a b : Int) (w : World) (h1 : -4611686018427387904 ≤ a) (h2 : a ≤ 4611686018427387904) (hb : 1 ≤ b) (hc : b ≤ 4611686018427387904) :
    Calls Try.prog 12 #[.int .i64 a, .int .i64 b] w fun e w' => e = .returned (.int .i64 (ce a b)) ∧ w = w' := by
  have HC := Lib.hid (show ce a b = -(fl (-a) b) from rfl)
  have hbd := fl_bd (-a) b (by omega) (by omega) hb
  go_enter Try.func12, Try.ntmps12
  go_wp2_with (go_at_call 22; refine (rfloor_any _ _ _ (by omega) (by omega) (by omega) (by omega)).mono ?_; rintro e w1 ⟨rfl, rfl⟩)
  go_ret
  exact ⟨by rw [HC.out]; rfl, rfl⟩

theorem rdrift_any (rho d : Int) (w : World) (h1 : 0 ≤ rho) (h2 : rho ≤ 1000000) (h3 : -2199023255552 ≤ d) (h4 : d ≤ 2199023255552) :
    Calls Try.prog 11 #[.int .i64 rho, .int .i64 d] w fun e w' => e = .returned (.int .i64 (drf rho d)) ∧ w = w' := by
  have hx : ∀ x : Int, 0 ≤ x → x ≤ 2199023255552 → 0 ≤ rho * x ∧ rho * x ≤ 2199023255552000000 := fun x h0 hx => by
    have ha := Int.mul_nonneg h1 h0
    have hb := Int.mul_le_mul_of_nonneg_right h2 h0
    omega
  by_cases hd : d < 0
  · have hm := hx (-d) (by omega) (by omega)
    have HD := Lib.hid (show drf rho d = ce (rho * -d) 1000000 by unfold drf; rw [if_pos hd])
    clear hx
    go_enter Try.func11, Try.ntmps11
    go_wp2_with (go_at_call 12; refine (rceil_any _ _ _ (by omega) (by omega) (by omega) (by omega)).mono ?_; rintro e w1 ⟨rfl, rfl⟩)
    go_ret
    exact ⟨by rw [HD.out]; rfl, rfl⟩
  · have hm := hx d (by omega) (by omega)
    have HD := Lib.hid (show drf rho d = ce (rho * d) 1000000 by unfold drf; rw [if_neg hd])
    clear hx
    go_enter Try.func11, Try.ntmps11
    go_wp2_with (go_at_call 12; refine (rceil_any _ _ _ (by omega) (by omega) (by omega) (by omega)).mono ?_; rintro e w1 ⟨rfl, rfl⟩)
    go_ret
    exact ⟨by rw [HD.out]; rfl, rfl⟩
end Go.Proofs.Ytffpgocacdnfeaa
