/- Layer 10: at what time; which estimates are right; the live question. -/
import Derived.Test.YtffpgocacdnfeaaSkewL
import Derived.Test.YtffpgocacdnfeaaConfR
namespace Go.Proofs.Ytffpgocacdnfeaa
open Go.ChangeShapes Go.WideShapes Go.ChangeAt Go.RowKit
set_option linter.unusedVariables false
set_option linter.unusedSimpArgs false

set_option maxRecDepth 100000 in
set_option maxHeartbeats 2000000 in
theorem atf_on (v : Value) (c : Cf) (a lo hi x : Int) (w : World) (h : IsConf w v c) (hr : 0 ≤ c.Rho ∧ c.Rho ≤ 100000) (hx : 0 ≤ x ∧ x ≤ 2199023255552) (ha : 0 ≤ a ∧ a ≤ 2199023255552)
    (hl : -4503599627370496 ≤ lo ∧ lo ≤ 4503599627370496) (hh : -4503599627370496 ≤ hi ∧ hi ≤ 4503599627370496) :
    Calls Try.prog 14 #[v, .agg #[.bool true, .int .i64 a, .int .i64 lo, .int .i64 hi], .int .i64 x] w fun z w' => z = .returned (.tuple #[.int .i64 (x + (lo - drf c.Rho (x - a))), .int .i64 (x + (hi + drf c.Rho (x - a))), .bool true]) ∧ Below w.heap.size w w' := by
  obtain ⟨s, r, rfl, _⟩ := h
  have hd0 := drf_nonneg c.Rho (x - a) hr.1
  have hd1 := drf_size c.Rho (x - a) hr.1 (by omega) (by omega) (by omega)
  have k1 : IntKind.i64.wrap (x + (lo - drf c.Rho (x - a))) = x + (lo - drf c.Rho (x - a)) := IntWalk.i64_in _ (by omega)
  have k2 : IntKind.i64.wrap (x + (hi + drf c.Rho (x - a))) = x + (hi + drf c.Rho (x - a)) := IntWalk.i64_in _ (by omega)
  go_enter Try.func14, Try.ntmps14
  go_wp2_with fail
  refine (at_any _ _ _ _ _ _ _ ⟨hr.1, by omega⟩ (by omega) hl hh (by omega)).mono ?_
  rintro z w1 ⟨rfl, rfl⟩
  go_wp2_with fail
  go_quiet (fail)
  go_wp2
  go_ret3
  refine ⟨by simp, ?_⟩
  refine Bdrew ?_ _
  go_grown
theorem atf_off (v : Value) (c : Cf) (a lo hi x : Int) (w : World) (h : IsConf w v c) :
    Calls Try.prog 14 #[v, .agg #[.bool false, .int .i64 a, .int .i64 lo, .int .i64 hi], .int .i64 x] w fun z w' => z = .returned (.tuple #[.int .i64 0, .int .i64 0, .bool false]) ∧ Below w.heap.size w w' := by
  obtain ⟨s, r, rfl, _⟩ := h
  go_enter Try.func14, Try.ntmps14
  go_wp2
  go_ret3
  exact ⟨by simp, by go_grown⟩

def estO (on : Bool) (a lo hi : Int) : Bool :=
  if on then decide (0 ≤ a ∧ a ≤ 2199023255552 ∧ lo ≤ hi ∧ -1125899906842624 ≤ lo ∧ hi ≤ 1125899906842624) else decide (a = 0 ∧ lo = 0 ∧ hi = 0)

set_option maxHeartbeats 1000000 in
theorem rrightE_any (on : Bool) (a lo hi : Int) (w : World) :
    Calls Try.prog 19 #[.agg #[.bool on, .int .i64 a, .int .i64 lo, .int .i64 hi]] w fun z w' => z = .returned (.bool (estO on a lo hi)) ∧ Below w.heap.size w w' := by
  cases on
  · go_enter Try.func19, Try.ntmps19
    go_wp2
    all_goals
      go_ret
      refine ⟨ret_bool ?_, by go_grown⟩
      unfold estO
      rw [Bool.eq_iff_iff]
      simp
      try omega
  · go_enter Try.func19, Try.ntmps19
    go_wp2
    all_goals
      go_ret
      refine ⟨ret_bool ?_, by go_grown⟩
      unfold estO
      rw [Bool.eq_iff_iff]
      simp only [if_true, decide_eq_true_eq, Bool.false_eq_true]
      first | omega | (constructor <;> intro h <;> first | omega | exact h.elim)

set_option maxHeartbeats 1000000 in
theorem rightE_any (on : Bool) (a lo hi : Int) (w : World) :
    Calls Try.prog 21 #[.agg #[.bool on, .int .i64 a, .int .i64 lo, .int .i64 hi]] w fun z w' => z = .returned (.bool (estO on a lo hi)) ∧ Below w.heap.size w w' := by
  cases on
  · go_enter Try.func21, Try.ntmps21
    go_wp2
    all_goals
      go_ret
      refine ⟨ret_bool ?_, by go_grown⟩
      unfold estO
      rw [Bool.eq_iff_iff]
      simp
      try omega
  · go_enter Try.func21, Try.ntmps21
    go_wp2
    all_goals
      go_ret
      refine ⟨ret_bool ?_, by go_grown⟩
      unfold estO
      rw [Bool.eq_iff_iff]
      simp only [if_true, decide_eq_true_eq, Bool.false_eq_true]
      first | omega | (constructor <;> intro h <;> first | omega | exact h.elim)

end Go.Proofs.Ytffpgocacdnfeaa
