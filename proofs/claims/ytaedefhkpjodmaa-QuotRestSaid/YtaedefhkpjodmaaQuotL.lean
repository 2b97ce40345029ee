/- The laws of layer 9, walked. -/
import Derived.Test.YtaedefhkpjodmaaQuot
namespace Go.Proofs.Ytaedefhkpjodmaa
open Go.ChangeShapes Go.WideShapes Go.ChangeAt Go.RowKit
set_option linter.unusedVariables false
set_option linter.unusedSimpArgs false


set_option maxHeartbeats 1000000 in
theorem head_any (w : World) :
    Calls Try.prog 9 #[] w fun e w' => e = .returned (.bool true) ∧ Below w.heap.size w w' := by
  have f1 : fl (-7) 2 = -4 := by decide
  have f2 : ce (-7) 2 = -3 := by decide
  have f3 : fl 7 2 = 3 := by decide
  have f4 : ce 7 2 = 4 := by decide
  have f5 : drf 100 10001 = 2 := by decide
  have f6 : drf 100 (-10000) = 1 := by decide
  have f7 : drf 0 9 = 0 := by decide
  go_enter Try.func9, Try.ntmps9
  go_wp2_with fail
  refine (floor_any (-7) 2 _ (by omega) (by omega) (by omega) (by omega)).mono ?_
  rintro e w1 ⟨rfl, hb1⟩
  go_wp2_with fail
  refine (ceil_any (-7) 2 _ (by omega) (by omega) (by omega) (by omega)).mono ?_
  rintro e w2 ⟨rfl, hb2⟩
  go_wp2_with fail
  refine (floor_any 7 2 _ (by omega) (by omega) (by omega) (by omega)).mono ?_
  rintro e w3 ⟨rfl, hb3⟩
  go_wp2_with fail
  refine (ceil_any 7 2 _ (by omega) (by omega) (by omega) (by omega)).mono ?_
  rintro e w4 ⟨rfl, hb4⟩
  go_wp2_with fail
  refine (drift_any 100 10001 _ (by omega) (by omega) (by omega) (by omega)).mono ?_
  rintro e w5 ⟨rfl, hb5⟩
  go_wp2_with fail
  refine (drift_any 100 (-10000) _ (by omega) (by omega) (by omega) (by omega)).mono ?_
  rintro e w6 ⟨rfl, hb6⟩
  go_wp2_with fail
  refine (drift_any 0 9 _ (by omega) (by omega) (by omega) (by omega)).mono ?_
  rintro e w7 ⟨rfl, hb7⟩
  go_wp2
  go_ret
  exact ⟨rfl, Btrans hb1 (Btrans hb2 (Btrans hb3 (Btrans hb4 (Btrans hb5 (Btrans hb6 hb7)))))⟩

def goodB (a b : Int) : Bool := decide (-1152921504606846976 ≤ a ∧ a ≤ 1152921504606846976 ∧ 1 ≤ b ∧ b ≤ 1099511627776)
def timedB (rho d : Int) : Bool := decide (0 ≤ rho ∧ rho ≤ 1000000 ∧ -2199023255552 ≤ d ∧ d ≤ 2199023255552)
theorem goodP {a b : Int} (h : goodB a b = true) : -1152921504606846976 ≤ a ∧ a ≤ 1152921504606846976 ∧ 1 ≤ b ∧ b ≤ 1099511627776 := by unfold goodB at h; simpa using h
theorem timedP {a b : Int} (h : timedB a b = true) : 0 ≤ a ∧ a ≤ 1000000 ∧ -2199023255552 ≤ b ∧ b ≤ 2199023255552 := by unfold timedB at h; simpa using h
theorem good_any (a b : Int) (w : World) :
    Calls Try.prog 10 #[.int .i64 a, .int .i64 b] w fun e w' => e = .returned (.bool (goodB a b)) ∧ w = w' := by
  go_enter Try.func10, Try.ntmps10
  go_wp2
  all_goals
    go_ret
    refine ⟨ret_bool ?_, rfl⟩
    unfold goodB
    rw [Bool.eq_iff_iff]
    simp only [decide_eq_true_eq, Bool.false_eq_true]
    constructor <;> intro h <;> first | omega | exact h.elim
theorem timed_any (a b : Int) (w : World) :
    Calls Try.prog 15 #[.int .i64 a, .int .i64 b] w fun e w' => e = .returned (.bool (timedB a b)) ∧ w = w' := by
  go_enter Try.func15, Try.ntmps15
  go_wp2
  all_goals
    go_ret
    refine ⟨ret_bool ?_, rfl⟩
    unfold timedB
    rw [Bool.eq_iff_iff]
    simp only [decide_eq_true_eq, Bool.false_eq_true]
    constructor <;> intro h <;> first | omega | exact h.elim

set_option maxHeartbeats 1000000 in
theorem walk_QuotTells (a b rho d : Int) (w : World) (w0 : (Lit.int .i64 a).wf = true) (w1 : (Lit.int .i64 b).wf = true) (w2 : (Lit.int .i64 rho).wf = true) (w3 : (Lit.int .i64 d).wf = true) :
    Calls Try.prog 3 #[.int .i64 a, .int .i64 b, .int .i64 rho, .int .i64 d] w fun e w' => e = .returned (.bool true) ∧ Below w.heap.size w w' := by
  clear w0 w1 w2 w3
  go_enter Try.func3, Try.ntmps3
  go_wp2_with fail
  refine (head_any _).mono ?_
  rintro e w1 ⟨rfl, hb1⟩
  go_wp2_with fail
  refine (good_any a b _).mono ?_
  rintro e w2 ⟨rfl, rfl⟩
  rcases hg : goodB a b with _ | _ <;> rcases ht : timedB rho d with _ | _
  case false.false =>
    go_wp2_with (go_at_call 15; refine (timed_any _ _ _).mono ?_; rintro e w2 ⟨rfl, rfl⟩)
    go_ret
    exact ⟨rfl, hb1⟩
  case false.true =>
    have hp := timedP ht
    go_wp2_with fail
    refine (timed_any _ _ _).mono ?_
    rintro e w2 ⟨rfl, rfl⟩
    go_wp2_with fail
    refine (drift_any _ _ _ (by omega) (by omega) (by omega) (by omega)).mono ?_
    rintro e w2 ⟨rfl, hb2⟩
    go_wp2_with fail
    refine (rdrift_any _ _ _ (by omega) (by omega) (by omega) (by omega)).mono ?_
    rintro e w3 ⟨rfl, rfl⟩
    go_wp2
    go_ret
    exact ⟨by simp, Btrans hb1 hb2⟩
  case true.false =>
    have hp := goodP hg
    go_wp2_with fail
    refine (floor_any _ _ _ (by omega) (by omega) (by omega) (by omega)).mono ?_
    rintro e w2 ⟨rfl, hb2⟩
    go_wp2_with fail
    refine (rfloor_any _ _ _ (by omega) (by omega) (by omega) (by omega)).mono ?_
    rintro e w3 ⟨rfl, rfl⟩
    go_wp2_with fail
    refine (ceil_any _ _ _ (by omega) (by omega) (by omega) (by omega)).mono ?_
    rintro e w3 ⟨rfl, hb3⟩
    go_wp2_with fail
    refine (rceil_any _ _ _ (by omega) (by omega) (by omega) (by omega)).mono ?_
    rintro e w4 ⟨rfl, rfl⟩
    go_wp2_with fail
    refine (timed_any _ _ _).mono ?_
    rintro e w4 ⟨rfl, rfl⟩
    go_wp2
    go_ret
    exact ⟨rfl, Btrans hb1 (Btrans hb2 hb3)⟩
  case true.true =>
    have hp := goodP hg
    have hq := timedP ht
    go_wp2_with fail
    refine (floor_any _ _ _ (by omega) (by omega) (by omega) (by omega)).mono ?_
    rintro e w2 ⟨rfl, hb2⟩
    go_wp2_with fail
    refine (rfloor_any _ _ _ (by omega) (by omega) (by omega) (by omega)).mono ?_
    rintro e w3 ⟨rfl, rfl⟩
    go_wp2_with fail
    refine (ceil_any _ _ _ (by omega) (by omega) (by omega) (by omega)).mono ?_
    rintro e w3 ⟨rfl, hb3⟩
    go_wp2_with fail
    refine (rceil_any _ _ _ (by omega) (by omega) (by omega) (by omega)).mono ?_
    rintro e w4 ⟨rfl, rfl⟩
    go_wp2_with fail
    refine (timed_any _ _ _).mono ?_
    rintro e w4 ⟨rfl, rfl⟩
    go_wp2_with fail
    refine (drift_any _ _ _ (by omega) (by omega) (by omega) (by omega)).mono ?_
    rintro e w4 ⟨rfl, hb4⟩
    go_wp2_with fail
    refine (rdrift_any _ _ _ (by omega) (by omega) (by omega) (by omega)).mono ?_
    rintro e w5 ⟨rfl, rfl⟩
    go_wp2
    go_ret
    exact ⟨by simp, Btrans hb1 (Btrans hb2 (Btrans hb3 hb4))⟩

theorem fl_add (a b : Int) (hb : 1 ≤ b) : fl (a + b) b = fl a b + 1 := by
  unfold fl
  rw [Int.add_ediv_of_dvd_right (Int.dvd_refl b), Int.ediv_self (by omega)]
theorem ce_add (a b : Int) (hb : 1 ≤ b) : ce (a + b) b = ce a b + 1 := by
  unfold ce
  have := fl_add (-(a + b)) b hb
  unfold fl at this
  rw [show -(a + b) + b = -a from by omega] at this
  omega
theorem ce_bd (a b : Int) (h1 : -4611686018427387904 ≤ a) (h2 : a ≤ 4611686018427387904) (hb : 1 ≤ b) : -4611686018427387904 ≤ ce a b ∧ ce a b ≤ 4611686018427387904 := by
  have := fl_bd (-a) b (by omega) (by omega) hb
  unfold fl at this
  unfold ce
  omega
theorem fl_mono (a c b : Int) (hb : 1 ≤ b) (h : a ≤ c) : fl a b ≤ fl c b := Int.ediv_le_ediv (by omega) h
theorem ce_mono (a c b : Int) (hb : 1 ≤ b) (h : a ≤ c) : ce a b ≤ ce c b := by
  have := Int.ediv_le_ediv (c := b) (a := -c) (b := -a) (by omega) (by omega)
  unfold ce
  omega

set_option maxHeartbeats 1000000 in
theorem walk_QuotFlip (a b : Int) (w : World) (w0 : (Lit.int .i64 a).wf = true) (w1 : (Lit.int .i64 b).wf = true) :
    Calls Try.prog 5 #[.int .i64 a, .int .i64 b] w fun e w' => e = .returned (.bool true) ∧ Below w.heap.size w w' := by
  clear w0 w1
  go_enter Try.func5, Try.ntmps5
  go_wp2_with fail
  refine (head_any _).mono ?_
  rintro e w1 ⟨rfl, hb1⟩
  go_wp2_with fail
  refine (good_any a b _).mono ?_
  rintro e w2 ⟨rfl, rfl⟩
  rcases hg : goodB a b with _ | _
  · go_wp2
    go_ret
    exact ⟨rfl, hb1⟩
  · have hp := goodP hg
    by_cases hs : 576460752303423488 < a
    · go_wp2
      go_ret
      exact ⟨rfl, hb1⟩
    · have e1 : ce a b = -(fl (-a) b) := rfl
      have e2 := fl_add a b hp.2.2.1
      have e3 := ce_add a b hp.2.2.1
      have b1 := fl_bd a b (by omega) (by omega) (by omega)
      have b2 := fl_bd (-a) b (by omega) (by omega) (by omega)
      have E1 := Lib.hid e1
      clear e1
      rw [E1.out] at e3
      go_wp2_with fail
      refine (ceil_any _ _ _ (by omega) (by omega) (by omega) (by omega)).mono ?_
      rintro e w2 ⟨rfl, hb2⟩
      rw [E1.out]
      go_wp2_with fail
      refine (floor_any _ _ _ (by omega) (by omega) (by omega) (by omega)).mono ?_
      rintro e w3 ⟨rfl, hb3⟩
      go_wp2_with fail
      refine (floor_any _ _ _ (by omega) (by omega) (by omega) (by omega)).mono ?_
      rintro e w4 ⟨rfl, hb4⟩
      go_wp2_with fail
      refine (floor_any _ _ _ (by omega) (by omega) (by omega) (by omega)).mono ?_
      rintro e w5 ⟨rfl, hb5⟩
      go_wp2_with fail
      refine (ceil_any _ _ _ (by omega) (by omega) (by omega) (by omega)).mono ?_
      rintro e w6 ⟨rfl, hb6⟩
      go_wp2_with fail
      refine (ceil_any _ _ _ (by omega) (by omega) (by omega) (by omega)).mono ?_
      rintro e w7 ⟨rfl, hb7⟩
      rw [E1.out]
      go_wp2
      go_ret
      exact ⟨by simp, Btrans hb1 (Btrans hb2 (Btrans hb3 (Btrans hb4 (Btrans hb5 (Btrans hb6 hb7)))))⟩

set_option maxHeartbeats 1000000 in
theorem walk_QuotOrder (a c b : Int) (w : World) (w0 : (Lit.int .i64 a).wf = true) (w1 : (Lit.int .i64 c).wf = true) (w2 : (Lit.int .i64 b).wf = true) :
    Calls Try.prog 6 #[.int .i64 a, .int .i64 c, .int .i64 b] w fun e w' => e = .returned (.bool true) ∧ Below w.heap.size w w' := by
  clear w0 w1 w2
  go_enter Try.func6, Try.ntmps6
  go_wp2_with fail
  refine (head_any _).mono ?_
  rintro e w1 ⟨rfl, hb1⟩
  go_wp2_with fail
  refine (good_any a b _).mono ?_
  rintro e w2 ⟨rfl, rfl⟩
  rcases hg : goodB a b with _ | _
  · go_wp2
    go_ret
    exact ⟨rfl, hb1⟩
  · go_wp2_with fail
    refine (good_any c b _).mono ?_
    rintro e w2 ⟨rfl, rfl⟩
    rcases hh : goodB c b with _ | _
    · go_wp2
      go_ret
      exact ⟨rfl, hb1⟩
    · have hp := goodP hg
      have hq := goodP hh
      by_cases hs : c < a
      · go_wp2
        go_ret
        exact ⟨rfl, hb1⟩
      · have m1 := fl_mono a c b (by omega) (by omega)
        have m2 := ce_mono a c b (by omega) (by omega)
        go_wp2_with fail
        refine (floor_any _ _ _ (by omega) (by omega) (by omega) (by omega)).mono ?_
        rintro e w3 ⟨rfl, hb3⟩
        go_wp2_with fail
        refine (floor_any _ _ _ (by omega) (by omega) (by omega) (by omega)).mono ?_
        rintro e w4 ⟨rfl, hb4⟩
        go_wp2_with fail
        refine (ceil_any _ _ _ (by omega) (by omega) (by omega) (by omega)).mono ?_
        rintro e w5 ⟨rfl, hb5⟩
        go_wp2_with fail
        refine (ceil_any _ _ _ (by omega) (by omega) (by omega) (by omega)).mono ?_
        rintro e w6 ⟨rfl, hb6⟩
        go_wp2
        go_ret
        exact ⟨by simp [m2], Btrans hb1 (Btrans hb3 (Btrans hb4 (Btrans hb5 hb6)))⟩

theorem drf_nonneg (rho d : Int) (h : 0 ≤ rho) : 0 ≤ drf rho d := by
  have h0 : 0 ≤ rho * (if d < 0 then -d else d) := Int.mul_nonneg h (by split <;> omega)
  unfold drf ce
  omega
theorem drf_neg (rho d : Int) : drf rho (-d) = drf rho d := by
  unfold drf
  rcases (by omega : d < 0 ∨ d = 0 ∨ 0 < d) with h | h | h
  · rw [if_neg (by omega), if_pos h]
  · subst h; rfl
  · rw [if_pos (by omega), if_neg (by omega), Int.neg_neg]
theorem drf_zero (rho : Int) : drf rho 0 = 0 := by simp [drf, ce]
theorem drf_none (d : Int) : drf 0 d = 0 := by simp [drf, ce]
theorem drf_add (rho d e : Int) (h : 0 ≤ rho) : drf rho (d + e) ≤ drf rho d + drf rho e := by
  have h1 : rho * (if d + e < 0 then -(d + e) else d + e) ≤ rho * (if d < 0 then -d else d) + rho * (if e < 0 then -e else e) := by
    rw [← Int.mul_add]
    exact Int.mul_le_mul_of_nonneg_left (by (repeat' split) <;> omega) h
  unfold drf ce
  omega
theorem drf_mono (rho more d e : Int) (h : 0 ≤ rho) (hm : rho ≤ more) (hd : 0 ≤ d) (he : d ≤ e) : drf rho d ≤ drf more e := by
  have h1 : rho * d ≤ more * e := Int.le_trans (Int.mul_le_mul_of_nonneg_left he h) (Int.mul_le_mul_of_nonneg_right hm (by omega))
  unfold drf ce
  rw [if_neg (by omega), if_neg (by omega)]
  omega
theorem drf_full (d : Int) (hd : 0 ≤ d) : drf 1000000 d = d := by
  unfold drf ce
  rw [if_neg (by omega)]
  omega
theorem drf_le (rho d : Int) (h : 0 ≤ rho) (hm : rho ≤ 1000000) (hd : 0 ≤ d) : drf rho d ≤ d := by
  have := drf_mono rho 1000000 d d h hm hd (Int.le_refl _)
  rwa [drf_full d hd] at this
theorem drf_size (rho d : Int) (h1 : 0 ≤ rho) (h2 : rho ≤ 1000000) (h3 : -2199023255552 ≤ d) (h4 : d ≤ 2199023255552) : drf rho d ≤ 2199023255552 := by
  rcases (by omega : d < 0 ∨ 0 ≤ d) with h | h
  · have := drf_le rho (-d) h1 h2 (by omega)
    rw [drf_neg] at this
    omega
  · have := drf_le rho d h1 h2 h
    omega

set_option maxHeartbeats 1000000 in
theorem walk_QuotDrift (rho d e : Int) (w : World) (w0 : (Lit.int .i64 rho).wf = true) (w1 : (Lit.int .i64 d).wf = true) (w2 : (Lit.int .i64 e).wf = true) :
    Calls Try.prog 7 #[.int .i64 rho, .int .i64 d, .int .i64 e] w fun e w' => e = .returned (.bool true) ∧ Below w.heap.size w w' := by
  clear w0 w1 w2
  go_enter Try.func7, Try.ntmps7
  go_wp2_with fail
  refine (head_any _).mono ?_
  rintro z w1 ⟨rfl, hb1⟩
  go_wp2_with fail
  refine (timed_any _ _ _).mono ?_
  rintro z w2 ⟨rfl, rfl⟩
  rcases hg : timedB rho d with _ | _
  · go_wp2
    go_ret
    exact ⟨rfl, hb1⟩
  have p1 := timedP hg
  go_wp2_with fail
  refine (timed_any _ _ _).mono ?_
  rintro z w2 ⟨rfl, rfl⟩
  rcases hh : timedB rho e with _ | _
  · go_wp2
    go_ret
    exact ⟨rfl, hb1⟩
  have p2 := timedP hh
  go_wp2_with fail
  refine (timed_any _ _ _).mono ?_
  rintro z w2 ⟨rfl, rfl⟩
  rcases hi : timedB rho (d + e) with _ | _
  · go_wp2
    go_ret
    exact ⟨rfl, hb1⟩
  have p3 := timedP hi
  have a1 := drf_add rho d e p1.1
  have a2 := drf_neg rho d
  have a3 := drf_nonneg rho d p1.1
  have a4 := drf_zero rho
  have a5 := drf_none d
  have a6 := drf_size rho d p1.1 p1.2.1 p1.2.2.1 p1.2.2.2
  have a7 := drf_size rho e p1.1 p1.2.1 p2.2.2.1 p2.2.2.2
  have a8 := drf_nonneg rho e p1.1
  go_wp2_with fail
  refine (drift_any _ _ _ (by omega) (by omega) (by omega) (by omega)).mono ?_
  rintro z w2 ⟨rfl, hb2⟩
  go_wp2_with fail
  refine (drift_any _ _ _ (by omega) (by omega) (by omega) (by omega)).mono ?_
  rintro z w3 ⟨rfl, hb3⟩
  go_wp2_with fail
  refine (drift_any _ _ _ (by omega) (by omega) (by omega) (by omega)).mono ?_
  rintro z w4 ⟨rfl, hb4⟩
  go_wp2_with fail
  refine (drift_any _ _ _ (by omega) (by omega) (by omega) (by omega)).mono ?_
  rintro z w5 ⟨rfl, hb5⟩
  go_wp2_with fail
  refine (drift_any _ _ _ (by omega) (by omega) (by omega) (by omega)).mono ?_
  rintro z w6 ⟨rfl, hb6⟩
  go_wp2_with fail
  refine (drift_any _ _ _ (by omega) (by omega) (by omega) (by omega)).mono ?_
  rintro z w7 ⟨rfl, hb7⟩
  go_wp2
  go_ret
  exact ⟨by simp, Btrans hb1 (Btrans hb2 (Btrans hb3 (Btrans hb4 (Btrans hb5 (Btrans hb6 hb7)))))⟩

set_option maxHeartbeats 1000000 in
theorem walk_QuotMore (rho more d e : Int) (w : World) (w0 : (Lit.int .i64 rho).wf = true) (w1 : (Lit.int .i64 more).wf = true) (w2 : (Lit.int .i64 d).wf = true) (w3 : (Lit.int .i64 e).wf = true) :
    Calls Try.prog 8 #[.int .i64 rho, .int .i64 more, .int .i64 d, .int .i64 e] w fun e w' => e = .returned (.bool true) ∧ Below w.heap.size w w' := by
  clear w0 w1 w2 w3
  go_enter Try.func8, Try.ntmps8
  go_wp2_with fail
  refine (head_any _).mono ?_
  rintro z w1 ⟨rfl, hb1⟩
  go_wp2_with fail
  refine (timed_any _ _ _).mono ?_
  rintro z w2 ⟨rfl, rfl⟩
  rcases hg : timedB rho d with _ | _
  · go_wp2
    go_ret
    exact ⟨rfl, hb1⟩
  have p1 := timedP hg
  go_wp2_with fail
  refine (timed_any _ _ _).mono ?_
  rintro z w2 ⟨rfl, rfl⟩
  rcases hh : timedB more e with _ | _
  · go_wp2
    go_ret
    exact ⟨rfl, hb1⟩
  have p2 := timedP hh
  by_cases c1 : more < rho
  · go_wp2
    go_ret
    exact ⟨rfl, hb1⟩
  by_cases c2 : d < 0
  · go_wp2
    go_ret
    exact ⟨rfl, hb1⟩
  by_cases c3 : e < d
  · go_wp2
    go_ret
    exact ⟨rfl, hb1⟩
  have a1 := drf_mono rho more d e (by omega) (by omega) (by omega) (by omega)
  have a2 := drf_full d (by omega)
  have a3 := drf_le rho d (by omega) (by omega) (by omega)
  go_wp2_with fail
  refine (drift_any _ _ _ (by omega) (by omega) (by omega) (by omega)).mono ?_
  rintro z w2 ⟨rfl, hb2⟩
  go_wp2_with fail
  refine (drift_any _ _ _ (by omega) (by omega) (by omega) (by omega)).mono ?_
  rintro z w3 ⟨rfl, hb3⟩
  go_wp2_with fail
  refine (drift_any _ _ _ (by omega) (by omega) (by omega) (by omega)).mono ?_
  rintro z w4 ⟨rfl, hb4⟩
  go_wp2_with fail
  refine (drift_any _ _ _ (by omega) (by omega) (by omega) (by omega)).mono ?_
  rintro z w5 ⟨rfl, hb5⟩
  go_wp2
  go_ret
  exact ⟨by simp [a3], Btrans hb1 (Btrans hb2 (Btrans hb3 (Btrans hb4 hb5)))⟩
end Go.Proofs.Ytaedefhkpjodmaa
