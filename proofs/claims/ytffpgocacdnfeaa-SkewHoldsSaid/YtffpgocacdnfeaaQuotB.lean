import Derived.Test.YtffpgocacdnfeaaMem
namespace Go.Proofs.Ytffpgocacdnfeaa
open Go.ChangeShapes Go.WideShapes Go.ChangeAt Go.RowKit
set_option linter.unusedVariables false
set_option linter.unusedSimpArgs false



/-- What division leaves, with b above 0. -/
theorem t_rest (a b : Int) (hb : 1 ≤ b) : b * a.tdiv b + a.tmod b = a := Int.mul_tdiv_add_tmod a b
theorem t_lo (a b : Int) (hb : 1 ≤ b) : -b < a.tmod b := Int.lt_tmod_of_pos a (by omega)
theorem t_hi (a b : Int) (hb : 1 ≤ b) : a.tmod b < b := Int.tmod_lt_of_pos a (by omega)
theorem t_neg (a b : Int) (ha : a < 0) : a.tmod b ≤ 0 := by
  rw [show a = -(-a) from by omega, Int.neg_tmod]
  have := Int.tmod_nonneg (a := -a) b (by omega)
  omega
theorem t_div_neg (a b : Int) (hb : 1 ≤ b) (ha : a < 0) : a.tdiv b ≤ 0 ∧ a ≤ a.tdiv b := by
  rw [show a = -(-a) from by omega, Int.neg_tdiv]
  rw [Int.tdiv_eq_ediv_of_nonneg (by omega)]
  have h1 := Int.ediv_nonneg (a := -a) (b := b) (by omega) (by omega)
  have h2 := Int.ediv_le_self (a := -a) b (by omega)
  omega
theorem fl_unique (a b q r : Int) (hb : 1 ≤ b) (h : b * q + r = a) (h0 : 0 ≤ r) (h1 : r < b) : a / b = q := by
  subst h
  rw [Int.add_comm, Int.add_mul_ediv_left _ _ (by omega), Int.ediv_eq_zero_of_lt h0 h1]
  omega
/-- downwards and upwards, for b above 0 -/
def fl (a b : Int) : Int := a / b
def ce (a b : Int) : Int := -((-a) / b)
theorem fl_t (a b : Int) (hb : 1 ≤ b) : fl a b = if a.tmod b < 0 then a.tdiv b - 1 else a.tdiv b := by
  have h := t_rest a b hb
  have h1 := t_lo a b hb
  have h2 := t_hi a b hb
  unfold fl
  split
  · exact fl_unique a b _ (a.tmod b + b) hb (by rw [Int.mul_sub]; omega) (by omega) (by omega)
  · exact fl_unique a b _ _ hb h (by omega) h2
theorem ce_t (a b : Int) (hb : 1 ≤ b) : ce a b = if a.tmod b > 0 then a.tdiv b + 1 else a.tdiv b := by
  have h := t_rest a b hb
  have h1 := t_lo a b hb
  have h2 := t_hi a b hb
  unfold ce
  split
  · rw [fl_unique (-a) b (-(a.tdiv b) - 1) (b - a.tmod b) hb (by rw [Int.mul_sub, Int.mul_neg]; omega) (by omega) (by omega)]
    omega
  · rw [fl_unique (-a) b (-(a.tdiv b)) (-(a.tmod b)) hb (by rw [Int.mul_neg]; omega) (by omega) (by omega)]
    omega

def drf (rho d : Int) : Int := ce (rho * (if d < 0 then -d else d)) 1000000

theorem fl_bd (a b : Int) (h1 : -4611686018427387904 ≤ a) (h2 : a ≤ 4611686018427387904) (hb : 1 ≤ b) : -4611686018427387904 ≤ fl a b ∧ fl a b ≤ 4611686018427387904 := by
  have h := Int.mul_ediv_add_emod a b
  have h3 := Int.emod_nonneg a (b := b) (by omega)
  have h4 := Int.emod_lt_of_pos a (b := b) (by omega)
  unfold fl
  generalize a / b = q at *
  generalize a % b = r at *
  rcases (by omega : q < 0 ∨ 0 ≤ q) with hq | hq
  · have : b * q ≤ 1 * q := Int.mul_le_mul_of_nonpos_right (by omega) (by omega)
    constructor
    · have h5 : b * (q + 1) ≤ 1 * (q + 1) := Int.mul_le_mul_of_nonpos_right (by omega) (by omega)
      rw [Int.mul_add] at h5
      omega
    · omega
  · have : 1 * q ≤ b * q := Int.mul_le_mul_of_nonneg_right (by omega) (by omega)
    omega


theorem drf_nonneg (rho d : Int) (h : 0 ≤ rho) : 0 ≤ drf rho d := by
  have h0 : 0 ≤ rho * (if d < 0 then -d else d) := Int.mul_nonneg h (by split <;> omega)
  unfold drf ce
  omega
theorem drf_neg (rho d : Int) : drf rho (-d) = drf rho d := by
  unfold drf
  rcases (by omega : d < 0 ∨ d = 0 ∨ 0 < d) with h | h | h
  · rw [if_neg (by omega), if_pos h]
  · subst h; rfl
  · rw [if_pos (by omega), if_neg (by omega), Int.neg_neg]
theorem drf_zero (rho : Int) : drf rho 0 = 0 := by simp [drf, ce]
theorem drf_none (d : Int) : drf 0 d = 0 := by simp [drf, ce]
theorem drf_add (rho d e : Int) (h : 0 ≤ rho) : drf rho (d + e) ≤ drf rho d + drf rho e := by
  have h1 : rho * (if d + e < 0 then -(d + e) else d + e) ≤ rho * (if d < 0 then -d else d) + rho * (if e < 0 then -e else e) := by
    rw [← Int.mul_add]
    exact Int.mul_le_mul_of_nonneg_left (by (repeat' split) <;> omega) h
  unfold drf ce
  omega
theorem drf_mono (rho more d e : Int) (h : 0 ≤ rho) (hm : rho ≤ more) (hd : 0 ≤ d) (he : d ≤ e) : drf rho d ≤ drf more e := by
  have h1 : rho * d ≤ more * e := Int.le_trans (Int.mul_le_mul_of_nonneg_left he h) (Int.mul_le_mul_of_nonneg_right hm (by omega))
  unfold drf ce
  rw [if_neg (by omega), if_neg (by omega)]
  omega
theorem drf_full (d : Int) (hd : 0 ≤ d) : drf 1000000 d = d := by
  unfold drf ce
  rw [if_neg (by omega)]
  omega
theorem drf_le (rho d : Int) (h : 0 ≤ rho) (hm : rho ≤ 1000000) (hd : 0 ≤ d) : drf rho d ≤ d := by
  have := drf_mono rho 1000000 d d h hm hd (Int.le_refl _)
  rwa [drf_full d hd] at this
theorem drf_size (rho d : Int) (h1 : 0 ≤ rho) (h2 : rho ≤ 1000000) (h3 : -2199023255552 ≤ d) (h4 : d ≤ 2199023255552) : drf rho d ≤ 2199023255552 := by
  rcases (by omega : d < 0 ∨ 0 ≤ d) with h | h
  · have := drf_le rho (-d) h1 h2 (by omega)
    rw [drf_neg] at this
    omega
  · have := drf_le rho d h1 h2 h
    omega

end Go.Proofs.Ytffpgocacdnfeaa
