/- Layer 19: contracts of a rule's alarm. -/
import Derived.Test.YtcdmojimdiiepaaMem
import Derived.Deep.QuietTactic
import Derived.BigQuiet
import Derived.Deep.RegionHeld3
import Derived.StillTailTactics
import Derived.Laws.EntriesVeiled
namespace Go.Proofs.Ytcdmojimdiiepaa
open Go.ChangeShapes Go.WideShapes Go.ChangeAt Go.RowKit
set_option linter.unusedVariables false
set_option linter.unusedSimpArgs false

structure Ph where
  run : Int
  on : Bool
  now : Bool
def hrd (h : Int) (la : Bool) (s : Ph) (t : Int) : Ph :=
  if t = 2 then (if s.run + 1 < h then ⟨s.run + 1, s.on, s.now⟩ else ⟨h, true, true⟩) else if t = 1 then ⟨0, s.on && la, false⟩ else s
def akd (s : Ph) (ack : Bool) : Ph := if ack = true ∧ s.now = false then ⟨s.run, false, s.now⟩ else s
def pstep (h : Int) (la : Bool) (s : Ph) (t : Int) (ack : Bool) : Ph := akd (hrd h la s t) ack

set_option maxHeartbeats 1000000 in
theorem heard_any (sl : Value) (h : Int) (la : Bool) (s : Ph) (t : Int) (w : World) (h0 : 0 ≤ s.run) (h1 : s.run ≤ 4611686018427387904) :
    Calls Try.prog 70 #[.agg #[sl, .int .i64 h, .bool la], .agg #[.int .i64 s.run, .bool s.on, .bool s.now], .int .i64 t] w fun e w' =>
      e = .returned (.agg #[.int .i64 (hrd h la s t).run, .bool (hrd h la s t).on, .bool (hrd h la s t).now]) ∧
      (((w.alloc (.cells #[sl, .int .i64 h, .bool la] 50)).alloc (.cells #[.int .i64 (hrd h la s t).run, .bool (hrd h la s t).on, .bool (hrd h la s t).now] 71)).alloc (.cells #[.int .i64 (hrd h la s t).run, .bool (hrd h la s t).on, .bool (hrd h la s t).now] 71)) = w' := by
  obtain ⟨r, o, n⟩ := s
  simp only at h0 h1 ⊢
  by_cases h2 : t = 2
  · subst h2
    by_cases hr : r + 1 < h
    · have e : hrd h la ⟨r, o, n⟩ 2 = ⟨r + 1, o, n⟩ := by unfold hrd; simp [hr]
      simp only [e]
      clear e
      have g : (r + 1 == h) = false := by simp; omega
      go_enter Try.func70, Try.ntmps70
      go_wp2
      go_returns
      exact ⟨rfl, rfl⟩
    · have e : hrd h la ⟨r, o, n⟩ 2 = ⟨h, true, true⟩ := by unfold hrd; simp [hr]
      simp only [e]
      clear e
      by_cases hh : h < r + 1
      all_goals
        go_enter Try.func70, Try.ntmps70
        go_wp2
        go_returns
        have : r + 1 = h ∨ h < r + 1 := by omega
        first | exact ⟨rfl, rfl⟩ | (have e : r + 1 = h := by omega); subst e; exact ⟨by simp, by simp⟩
  · by_cases h3 : t = 1
    · subst h3
      have e : hrd h la ⟨r, o, n⟩ 1 = ⟨0, o && la, false⟩ := by unfold hrd; simp
      simp only [e]
      clear e h2
      cases o
      all_goals
        go_enter Try.func70, Try.ntmps70
        go_wp2
        go_returns
        exact ⟨by simp, by simp⟩
    · have e : hrd h la ⟨r, o, n⟩ t = ⟨r, o, n⟩ := by unfold hrd; simp [h2, h3]
      simp only [e]
      have g1 : (t == 1) = false := by simp [h3]
      have g2 : (t == 2) = false := by simp [h2]
      clear e h2 h3
      go_enter Try.func70, Try.ntmps70
      go_wp2
      go_returns
      exact ⟨rfl, rfl⟩

set_option maxHeartbeats 1000000 in
theorem ack_any (s : Ph) (ack : Bool) (w : World) :
    Calls Try.prog 69 #[.agg #[.int .i64 s.run, .bool s.on, .bool s.now], .bool ack] w fun e w' =>
      e = .returned (.agg #[.int .i64 (akd s ack).run, .bool (akd s ack).on, .bool (akd s ack).now]) ∧
      ((w.alloc (.cells #[.int .i64 (akd s ack).run, .bool (akd s ack).on, .bool (akd s ack).now] 71)).alloc (.cells #[.int .i64 (akd s ack).run, .bool (akd s ack).on, .bool (akd s ack).now] 71)) = w' := by
  obtain ⟨r, o, n⟩ := s
  cases ack <;> cases n
  all_goals
    simp only [akd, reduceCtorEq, and_self, and_true, and_false, if_true, if_false, Bool.false_eq_true]
    go_enter Try.func69, Try.ntmps69
    go_wp2
    go_returns
    exact ⟨rfl, rfl⟩

set_option maxHeartbeats 1000000 in
theorem at_any (sl : Value) (h : Int) (la : Bool) (r : Int) (o n : Bool) (w : World) :
    Calls Try.prog 46 #[.agg #[sl, .int .i64 h, .bool la], .agg #[.int .i64 r, .bool o, .bool n]] w fun e w' =>
      e = .returned (.agg #[.int .i64 r, .bool o, .bool n, .func (.func 68) #[] #[.pointer (some ⟨w.heap.size, 0, none⟩), .pointer (some ⟨w.heap.size + 1, 0, none⟩)]]) ∧
      (((w.alloc (.cells #[sl, .int .i64 h, .bool la] 50)).alloc (.cells #[.int .i64 r, .bool o, .bool n] 71)).alloc (.cells #[.int .i64 r, .bool o, .bool n, .func (.func 68) #[] #[.pointer (some ⟨w.heap.size, 0, none⟩), .pointer (some ⟨w.heap.size + 1, 0, none⟩)]] 100)) = w' := by
  go_enter Try.func46, Try.ntmps46
  go_wp2
  go_returns
  exact ⟨rfl, rfl⟩
end Go.Proofs.Ytcdmojimdiiepaa
