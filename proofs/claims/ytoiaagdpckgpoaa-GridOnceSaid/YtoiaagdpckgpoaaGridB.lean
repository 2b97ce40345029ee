/- Layer 13: rings of samples, the mathematics. -/
import Derived.Test.YtoiaagdpckgpoaaRingM
namespace Go.Proofs.Ytoiaagdpckgpoaa
open Go.ChangeShapes Go.WideShapes Go.ChangeAt Go.RowKit
set_option linter.unusedVariables false
set_option linter.unusedSimpArgs false

abbrev SB := (Int × Int) × Bool
def sflat (cs : List SB) : List Value := cs.flatMap fun a => [.int .i64 a.1.1, .int .i64 a.1.2, .bool a.2]
theorem sflat_len (cs : List SB) : (sflat cs).length = cs.length * 3 := by
  induction cs with
  | nil => rfl
  | cons a l ih => simp [sflat] at ih ⊢; omega
theorem sflat_at (l : List SB) (i : Nat) (a : SB) (h : l[i]? = some a) : (sflat l)[i * 3]? = some (.int .i64 a.1.1) ∧ (sflat l)[i * 3 + 1]? = some (.int .i64 a.1.2) ∧ (sflat l)[i * 3 + 2]? = some (.bool a.2) := by
  induction l generalizing i with
  | nil => simp at h
  | cons b l ih =>
    cases i with
    | zero =>
      simp at h
      subst h
      exact ⟨rfl, rfl, rfl⟩
    | succ i =>
      have h' : l[i]? = some a := by simpa using h
      have := ih i h'
      have e1 : (i + 1) * 3 = i * 3 + 3 := by omega
      rw [e1]
      exact this
theorem sflat_set (l : List SB) (i : Nat) (x y : Int) (b : Bool) : (((sflat l).set (i * 3) (.int .i64 x)).set (i * 3 + 1) (.int .i64 y)).set (i * 3 + 2) (.bool b) = sflat (l.set i ((x, y), b)) := by
  induction l generalizing i with
  | nil => rfl
  | cons a l ih =>
    cases i with
    | zero => rfl
    | succ i =>
      have e1 : (i + 1) * 3 = i * 3 + 1 + 1 + 1 := by omega
      have := ih i
      rw [e1]
      show (.int .i64 a.1.1 :: .int .i64 a.1.2 :: .bool a.2 :: (((sflat l).set (i * 3) (.int .i64 x)).set (i * 3 + 1) (.int .i64 y)).set (i * 3 + 2) (.bool b)) = _
      rw [this]
      rfl
theorem run_clear_three {P : Program} (w : World) (t e ty : TypeId) (z : Value) (ht : P.underlying t = some (.slice e)) (x y u : Value) (hv : ∀ w, (zeroValue e).run P w = .ok z w) (hz : z.cells = #[x, y, u]) (h1 : x.oneCell' = true) (h2 : y.oneCell' = true) (h3 : u.oneCell' = true) (b o c : Nat)
    (hc : ∀ j, j < 3 → (w.cell? ⟨b, o + j, none⟩).isSome = true) (hf : ∀ j, j < 3 → w.frozen? ⟨b, o + j, none⟩ = false) :
    (Builtin.clear_ #[t] ty #[.slice (some ⟨b, o, none⟩) 1 c]).run P w = .ok (.tuple #[]) (((w.setCell ⟨b, o, none⟩ x).setCell ⟨b, o + 1, none⟩ y).setCell ⟨b, o + 2, none⟩ u) := by
  have hzc : (Builtin.zeroCells z.cells 1).toList = [x, y, u] := by
    rw [hz]
    simp [Builtin.zeroCells]
    rfl
  have hst := run_storeCells_cells (P := P) b o [x, y, u] 0 w (by simpa using hc) (by simpa using hf) (by intro v hv'; simp at hv'; rcases hv' with rfl | rfl | rfl <;> assumption)
  simp only [Nat.add_zero] at hst
  simp [Builtin.clear_, run_underlying ht, hv, hzc, hst]
  rfl
end Go.Proofs.Ytoiaagdpckgpoaa
