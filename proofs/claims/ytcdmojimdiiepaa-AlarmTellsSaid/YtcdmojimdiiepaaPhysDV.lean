/- Layer 19: the document's answers. -/
import Derived.Test.YtcdmojimdiiepaaPhysCV
import Derived.Laws.StructEq
namespace Go.Proofs.Ytcdmojimdiiepaa
open Go.ChangeShapes Go.WideShapes Go.ChangeAt Go.RowKit
set_option linter.unusedVariables false
set_option linter.unusedSimpArgs false

set_option maxHeartbeats 1000000 in
theorem rstep_any (sl : Value) (h : Int) (la : Bool) (s : Ph) (t : Int) (ack : Bool) (w : World) (h0 : 0 ≤ s.run) (h1 : s.run ≤ 4611686018427387904) :
    Calls Try.prog 41 #[.agg #[sl, .int .i64 h, .bool la], .agg #[.int .i64 s.run, .bool s.on, .bool s.now], .int .i64 t, .bool ack] w fun e w' =>
      e = .returned (.agg #[.int .i64 (pstep h la s t ack).run, .bool (pstep h la s t ack).on, .bool (pstep h la s t ack).now]) ∧ Below w.heap.size w w' := by
  obtain ⟨r, o, n⟩ := s
  simp only at h0 h1
  have HP := Lib.hid (show pstep h la ⟨r, o, n⟩ t ack = akd (hrd h la ⟨r, o, n⟩ t) ack from rfl)
  rw [HP.out]
  clear HP
  by_cases h2 : t = 2
  · subst h2
    by_cases hr : r + 1 < h
    · have e : hrd h la ⟨r, o, n⟩ 2 = ⟨r + 1, o, n⟩ := by unfold hrd; simp [hr]
      rw [e]
      clear e
      have g : (r + 1 == h) = false := by simp; omega
      cases ack <;> cases n
      all_goals
        simp only [akd, reduceCtorEq, and_self, and_true, and_false, if_true, if_false, Bool.false_eq_true]
        go_enter Try.func41, Try.ntmps41
        go_wp2
        go_returns
        exact ⟨by simp, by go_grown⟩
    · have e : hrd h la ⟨r, o, n⟩ 2 = ⟨h, true, true⟩ := by unfold hrd; simp [hr]
      rw [e]
      clear e
      have e2 : akd ⟨h, true, true⟩ ack = ⟨h, true, true⟩ := by simp [akd]
      simp only [e2]
      clear e2
      by_cases hh : r + 1 = h
      · subst hh
        cases ack
        all_goals
          go_enter Try.func41, Try.ntmps41
          go_wp2
          go_returns
          exact ⟨by simp, by go_grown⟩
      · have hh2 : h < r + 1 := by omega
        clear hh
        cases ack
        all_goals
          go_enter Try.func41, Try.ntmps41
          go_wp2
          go_returns
          exact ⟨by simp, by go_grown⟩
  · by_cases h3 : t = 1
    · subst h3
      have e : hrd h la ⟨r, o, n⟩ 1 = ⟨0, o && la, false⟩ := by unfold hrd; simp
      rw [e]
      clear e h2
      cases o <;> cases ack
      all_goals
        simp only [akd, reduceCtorEq, and_self, and_true, and_false, if_true, if_false, Bool.false_eq_true]
        go_enter Try.func41, Try.ntmps41
        go_wp2
        go_returns
        exact ⟨by simp, by go_grown⟩
    · have e : hrd h la ⟨r, o, n⟩ t = ⟨r, o, n⟩ := by unfold hrd; simp [h2, h3]
      rw [e]
      have g1 : (t == 1) = false := by simp [h3]
      have g2 : (t == 2) = false := by simp [h2]
      clear e h2 h3
      cases ack <;> cases n
      all_goals
        simp only [akd, reduceCtorEq, and_self, and_true, and_false, if_true, if_false, Bool.false_eq_true]
        go_enter Try.func41, Try.ntmps41
        go_wp2
        go_returns
        exact ⟨by simp, by go_grown⟩

def rightP (h : Int) (la : Bool) (s : Ph) : Bool := decide (0 ≤ s.run) && decide (s.run ≤ h) && (s.now == decide (s.run = h)) && (s.on || !s.now) && (la || s.on == s.now)

end Go.Proofs.Ytcdmojimdiiepaa
