import Derived.Test.YteilgpijmldpjaaMem
namespace Go.Proofs.Yteilgpijmldpjaa
open Go.ChangeShapes Go.WideShapes Go.ChangeAt Go.RowKit
set_option linter.unusedVariables false
set_option linter.unusedSimpArgs false



/-- What division leaves, with b above 0. -/
theorem t_rest (a b : Int) (hb : 1 ≤ b) : b * a.tdiv b + a.tmod b = a := Int.mul_tdiv_add_tmod a b
theorem t_lo (a b : Int) (hb : 1 ≤ b) : -b < a.tmod b := Int.lt_tmod_of_pos a (by omega)
theorem t_hi (a b : Int) (hb : 1 ≤ b) : a.tmod b < b := Int.tmod_lt_of_pos a (by omega)
theorem t_neg (a b : Int) (ha : a < 0) : a.tmod b ≤ 0 := by
  rw [show a = -(-a) from by omega, Int.neg_tmod]
  have := Int.tmod_nonneg (a := -a) b (by omega)
  omega
theorem t_div_neg (a b : Int) (hb : 1 ≤ b) (ha : a < 0) : a.tdiv b ≤ 0 ∧ a ≤ a.tdiv b := by
  rw [show a = -(-a) from by omega, Int.neg_tdiv]
  rw [Int.tdiv_eq_ediv_of_nonneg (by omega)]
  have h1 := Int.ediv_nonneg (a := -a) (b := b) (by omega) (by omega)
  have h2 := Int.ediv_le_self (a := -a) b (by omega)
  omega
theorem fl_unique (a b q r : Int) (hb : 1 ≤ b) (h : b * q + r = a) (h0 : 0 ≤ r) (h1 : r < b) : a / b = q := by
  subst h
  rw [Int.add_comm, Int.add_mul_ediv_left _ _ (by omega), Int.ediv_eq_zero_of_lt h0 h1]
  omega
/-- downwards and upwards, for b above 0 -/
def fl (a b : Int) : Int := a / b
def ce (a b : Int) : Int := -((-a) / b)
theorem fl_t (a b : Int) (hb : 1 ≤ b) : fl a b = if a.tmod b < 0 then a.tdiv b - 1 else a.tdiv b := by
  have h := t_rest a b hb
  have h1 := t_lo a b hb
  have h2 := t_hi a b hb
  unfold fl
  split
  · exact fl_unique a b _ (a.tmod b + b) hb (by rw [Int.mul_sub]; omega) (by omega) (by omega)
  · exact fl_unique a b _ _ hb h (by omega) h2
theorem ce_t (a b : Int) (hb : 1 ≤ b) : ce a b = if a.tmod b > 0 then a.tdiv b + 1 else a.tdiv b := by
  have h := t_rest a b hb
  have h1 := t_lo a b hb
  have h2 := t_hi a b hb
  unfold ce
  split
  · rw [fl_unique (-a) b (-(a.tdiv b) - 1) (b - a.tmod b) hb (by rw [Int.mul_sub, Int.mul_neg]; omega) (by omega) (by omega)]
    omega
  · rw [fl_unique (-a) b (-(a.tdiv b)) (-(a.tmod b)) hb (by rw [Int.mul_neg]; omega) (by omega) (by omega)]
    omega

def drf (rho d : Int) : Int := ce (rho * (if d < 0 then -d else d)) 1000000

theorem floor_any (a b : Int) (w : World) (h1 : -4611686018427387904 ≤ a) (h2 : a ≤ 4611686018427387904) (hb : 1 ≤ b) (hc : b ≤ 4611686018427387904) :
    Calls Try.prog 24 #[.int .i64 a, .int .i64 b] w fun e w' => e = .returned (.int .i64 (fl a b)) ∧ Below w.heap.size w w' := by
  have HF := Lib.hid (fl_t a b hb)
  have hlo := t_lo a b hb
  have hhi := t_hi a b hb
  by_cases ha : a < 0
  · have hq := t_div_neg a b hb ha
    have hr := t_neg a b ha
    go_enter Try.func24, Try.ntmps24
    go_wp2
    all_goals
      go_ret
      refine ⟨?_, (Below.refl _ _).alloc (Nat.le_refl _) _⟩
      simp
      rw [HF.out]
      split <;> omega
  · have HG := Lib.hid (show fl a b = a / b from rfl)
    have hem := Int.emod_nonneg a (b := b) (by omega)
    go_enter Try.func24, Try.ntmps24
    go_wp2
    go_ret
    refine ⟨?_, (Below.refl _ _).alloc (Nat.le_refl _) _⟩
    simp
    rw [HG.out]

/-! ### the document's answer -/
theorem rfloor_any (a b : Int) (w : World) (h1 : -4611686018427387904 ≤ a) (h2 : a ≤ 4611686018427387904) (hb : 1 ≤ b) (hc : b ≤ 4611686018427387904) :
    Calls Try.prog 21 #[.int .i64 a, .int .i64 b] w fun e w' => e = .returned (.int .i64 (fl a b)) ∧ w = w' := by
  have HF := Lib.hid (fl_t a b hb)
  have hlo := t_lo a b hb
  have hhi := t_hi a b hb
  by_cases ha : a < 0
  · have hq := t_div_neg a b hb ha
    have hr := t_neg a b ha
    have hqb : a.tdiv b * b = a - a.tmod b := by have := t_rest a b hb; rw [Int.mul_comm]; omega
    go_enter Try.func21, Try.ntmps21
    go_wp2
    all_goals
      go_ret
      refine ⟨?_, rfl⟩
      simp
      rw [HF.out]
      split <;> omega
  · have HG := Lib.hid (show fl a b = a / b from rfl)
    have hem := Int.emod_nonneg a (b := b) (by omega)
    have hem2 := Int.emod_lt_of_pos a (b := b) (by omega)
    have hqb : a / b * b = a - a % b := by have := Int.mul_ediv_add_emod a b; rw [Int.mul_comm]; omega
    go_enter Try.func21, Try.ntmps21
    go_wp2
    go_ret
    refine ⟨?_, rfl⟩
    simp
    rw [HG.out]

theorem fl_bd (a b : Int) (h1 : -4611686018427387904 ≤ a) (h2 : a ≤ 4611686018427387904) (hb : 1 ≤ b) : -4611686018427387904 ≤ fl a b ∧ fl a b ≤ 4611686018427387904 := by
  have h := Int.mul_ediv_add_emod a b
  have h3 := Int.emod_nonneg a (b := b) (by omega)
  have h4 := Int.emod_lt_of_pos a (b := b) (by omega)
  unfold fl
  generalize a / b = q at *
  generalize a % b = r at *
  rcases (by omega : q < 0 ∨ 0 ≤ q) with hq | hq
  · have : b * q ≤ 1 * q := Int.mul_le_mul_of_nonpos_right (by omega) (by omega)
    constructor
    · have h5 : b * (q + 1) ≤ 1 * (q + 1) := Int.mul_le_mul_of_nonpos_right (by omega) (by omega)
      rw [Int.mul_add] at h5
      omega
    · omega
  · have : 1 * q ≤ b * q := Int.mul_le_mul_of_nonneg_right (by omega) (by omega)
    omega

end Go.Proofs.Yteilgpijmldpjaa
