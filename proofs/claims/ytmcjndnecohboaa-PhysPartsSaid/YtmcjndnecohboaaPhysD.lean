/- Layer 19: the document's answers. -/
import Derived.Test.YtmcjndnecohboaaPhysC
import Derived.Laws.StructEq
namespace Go.Proofs.Ytmcjndnecohboaa
open Go.ChangeShapes Go.WideShapes Go.ChangeAt Go.RowKit
set_option linter.unusedVariables false
set_option linter.unusedSimpArgs false

set_option maxHeartbeats 1000000 in
theorem rstep_any (sl : Value) (h : Int) (la : Bool) (s : Ph) (t : Int) (ack : Bool) (w : World) (h0 : 0 ≤ s.run) (h1 : s.run ≤ 4611686018427387904) :
    Calls Try.prog 14 #[.agg #[sl, .int .i64 h, .bool la], .agg #[.int .i64 s.run, .bool s.on, .bool s.now], .int .i64 t, .bool ack] w fun e w' =>
      e = .returned (.agg #[.int .i64 (pstep h la s t ack).run, .bool (pstep h la s t ack).on, .bool (pstep h la s t ack).now]) ∧ Below w.heap.size w w' := by
  obtain ⟨r, o, n⟩ := s
  simp only at h0 h1
  have HP := Lib.hid (show pstep h la ⟨r, o, n⟩ t ack = akd (hrd h la ⟨r, o, n⟩ t) ack from rfl)
  rw [HP.out]
  clear HP
  by_cases h2 : t = 2
  · subst h2
    by_cases hr : r + 1 < h
    · have e : hrd h la ⟨r, o, n⟩ 2 = ⟨r + 1, o, n⟩ := by unfold hrd; simp [hr]
      rw [e]
      clear e
      have g : (r + 1 == h) = false := by simp; omega
      cases ack <;> cases n
      all_goals
        simp only [akd, reduceCtorEq, and_self, and_true, and_false, if_true, if_false, Bool.false_eq_true]
        go_enter Try.func14, Try.ntmps14
        go_wp2
        go_returns
        exact ⟨by simp, by go_grown⟩
    · have e : hrd h la ⟨r, o, n⟩ 2 = ⟨h, true, true⟩ := by unfold hrd; simp [hr]
      rw [e]
      clear e
      have e2 : akd ⟨h, true, true⟩ ack = ⟨h, true, true⟩ := by simp [akd]
      simp only [e2]
      clear e2
      by_cases hh : r + 1 = h
      · subst hh
        cases ack
        all_goals
          go_enter Try.func14, Try.ntmps14
          go_wp2
          go_returns
          exact ⟨by simp, by go_grown⟩
      · have hh2 : h < r + 1 := by omega
        clear hh
        cases ack
        all_goals
          go_enter Try.func14, Try.ntmps14
          go_wp2
          go_returns
          exact ⟨by simp, by go_grown⟩
  · by_cases h3 : t = 1
    · subst h3
      have e : hrd h la ⟨r, o, n⟩ 1 = ⟨0, o && la, false⟩ := by unfold hrd; simp
      rw [e]
      clear e h2
      cases o <;> cases ack
      all_goals
        simp only [akd, reduceCtorEq, and_self, and_true, and_false, if_true, if_false, Bool.false_eq_true]
        go_enter Try.func14, Try.ntmps14
        go_wp2
        go_returns
        exact ⟨by simp, by go_grown⟩
    · have e : hrd h la ⟨r, o, n⟩ t = ⟨r, o, n⟩ := by unfold hrd; simp [h2, h3]
      rw [e]
      have g1 : (t == 1) = false := by simp [h3]
      have g2 : (t == 2) = false := by simp [h2]
      clear e h2 h3
      cases ack <;> cases n
      all_goals
        simp only [akd, reduceCtorEq, and_self, and_true, and_false, if_true, if_false, Bool.false_eq_true]
        go_enter Try.func14, Try.ntmps14
        go_wp2
        go_returns
        exact ⟨by simp, by go_grown⟩

def rightP (h : Int) (la : Bool) (s : Ph) : Bool := decide (0 ≤ s.run) && decide (s.run ≤ h) && (s.now == decide (s.run = h)) && (s.on || !s.now) && (la || s.on == s.now)

set_option maxHeartbeats 1000000 in
theorem right_any (sl : Value) (h : Int) (la : Bool) (s : Ph) (w : World) :
    Calls Try.prog 11 #[.agg #[sl, .int .i64 h, .bool la], .agg #[.int .i64 s.run, .bool s.on, .bool s.now]] w fun e w' =>
      e = .returned (.bool (rightP h la s)) ∧ ((w.alloc (.cells #[sl, .int .i64 h, .bool la] 29)).alloc (.cells #[.int .i64 s.run, .bool s.on, .bool s.now] 23)) = w' := by
  obtain ⟨r, o, n⟩ := s
  unfold rightP
  simp only
  by_cases h0 : r < 0
  · go_enter Try.func11, Try.ntmps11
    go_wp2
    go_ret
    exact ⟨ret_bool (by simp; omega), rfl⟩
  by_cases h1 : h < r
  · go_enter Try.func11, Try.ntmps11
    go_wp2
    go_ret
    exact ⟨ret_bool (by simp; omega), rfl⟩
  have a1 : decide (0 ≤ r) = true := by simp; omega
  have a2 : decide (r ≤ h) = true := by simp; omega
  rw [a1, a2]
  clear a1 a2
  by_cases h2 : r = h
  · subst h2
    cases n <;> cases la <;> cases o
    all_goals
      go_enter Try.func11, Try.ntmps11
      go_wp2
      go_ret
      exact ⟨ret_bool (by simp), rfl⟩
  · have g : (r == h) = false := by simp [h2]
    have g2 : decide (r = h) = false := by simp [h2]
    rw [g2]
    clear h2 g2
    cases n <;> cases la <;> cases o
    all_goals
      go_enter Try.func11, Try.ntmps11
      go_wp2
      go_ret
      exact ⟨ret_bool (by simp), rfl⟩

set_option maxHeartbeats 1000000 in
theorem rright_any (sl : Value) (h : Int) (la : Bool) (s : Ph) (w : World) :
    Calls Try.prog 12 #[.agg #[sl, .int .i64 h, .bool la], .agg #[.int .i64 s.run, .bool s.on, .bool s.now]] w fun e w' =>
      e = .returned (.bool (rightP h la s)) ∧ ((w.alloc (.cells #[sl, .int .i64 h, .bool la] 29)).alloc (.cells #[.int .i64 s.run, .bool s.on, .bool s.now] 23)) = w' := by
  obtain ⟨r, o, n⟩ := s
  unfold rightP
  simp only
  by_cases h0 : r < 0
  · go_enter Try.func12, Try.ntmps12
    go_wp2
    go_ret
    exact ⟨ret_bool (by simp; omega), rfl⟩
  by_cases h1 : h < r
  · go_enter Try.func12, Try.ntmps12
    go_wp2
    go_ret
    exact ⟨ret_bool (by simp; omega), rfl⟩
  have a1 : decide (0 ≤ r) = true := by simp; omega
  have a2 : decide (r ≤ h) = true := by simp; omega
  rw [a1, a2]
  clear a1 a2
  by_cases h2 : r = h
  · subst h2
    cases n <;> cases la <;> cases o
    all_goals
      go_enter Try.func12, Try.ntmps12
      go_wp2
      go_ret
      exact ⟨ret_bool (by simp), rfl⟩
  · have g : (r == h) = false := by simp [h2]
    have g2 : decide (r = h) = false := by simp [h2]
    rw [g2]
    clear h2 g2
    cases n <;> cases la <;> cases o
    all_goals
      go_enter Try.func12, Try.ntmps12
      go_wp2
      go_ret
      exact ⟨ret_bool (by simp), rfl⟩

theorem hold_any (n : Int) (la : Bool) (w : World) (h0 : 0 ≤ n) (h1 : n ≤ 255) :
    Calls Try.prog 10 #[.int .u8 n, .bool la] w fun e w' => e = .returned (.agg #[.slice none 0 0, .int .i64 (n % 6 + 1), .bool la]) ∧ Below w.heap.size w w' := by
  go_enter Try.func10, Try.ntmps10
  go_wp2
  go_returns
  exact ⟨by simp, by go_grown⟩
end Go.Proofs.Ytmcjndnecohboaa
