/- Layer 5: what lies within its bounds. -/
import Derived.Test.YtoiaagdpckgpoaaConfR
import Derived.Test.YtoiaagdpckgpoaaMemC
namespace Go.Proofs.Ytoiaagdpckgpoaa
open Go.ChangeShapes Go.WideShapes Go.ChangeAt Go.RowKit
set_option linter.unusedVariables false
set_option linter.unusedSimpArgs false

structure Bd where
  (n lo hi : Int)
def Bd.ok (b : Bd) : Bool := decide (b.lo ≤ b.n ∧ b.n ≤ b.hi)
def bd3 (l : List Bd) : List Value := l.flatMap fun b => [.int .i64 b.n, .int .i64 b.lo, .int .i64 b.hi]
theorem bd3_len (l : List Bd) : (bd3 l).length = l.length * 3 := by
  induction l with
  | nil => rfl
  | cons a l ih => simp [bd3] at ih ⊢; omega
theorem bd3_at (l : List Bd) (i : Nat) (b : Bd) (h : l[i]? = some b) : (bd3 l)[i * 3]? = some (.int .i64 b.n) ∧ (bd3 l)[i * 3 + 1]? = some (.int .i64 b.lo) ∧ (bd3 l)[i * 3 + 2]? = some (.int .i64 b.hi) := by
  induction l generalizing i with
  | nil => simp at h
  | cons a l ih =>
    cases i with
    | zero =>
      simp at h
      subst h
      exact ⟨rfl, rfl, rfl⟩
    | succ i =>
      have h' : l[i]? = some b := by simpa using h
      have := ih i h'
      have e1 : (i + 1) * 3 = i * 3 + 3 := by omega
      rw [e1]
      exact this

theorem add_one' (a : Addr) : a.add 1 = ⟨a.block, a.off + 1, none⟩ := by simp [Addr.add]
theorem add_two' (a : Addr) : a.add 2 = ⟨a.block, a.off + 2, none⟩ := by simp [Addr.add]

end Go.Proofs.Ytoiaagdpckgpoaa
