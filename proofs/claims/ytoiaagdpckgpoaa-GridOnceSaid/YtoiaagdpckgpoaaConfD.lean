/- Layer 5: Right. -/
import Derived.Test.YtoiaagdpckgpoaaConfC
namespace Go.Proofs.Ytoiaagdpckgpoaa
open Go.ChangeShapes Go.WideShapes Go.ChangeAt Go.RowKit
set_option linter.unusedVariables false
set_option linter.unusedSimpArgs false

theorem conf_all (P H C Mn Mx Rho B Win St : Int) (n : Nat) (q : Int) (hq : 1 ≤ H ∧ H ≤ 32 → q = H + 1) :
    ([⟨P, 1, 1000000⟩, ⟨H, 1, 32⟩, ⟨C, q, 64⟩, ⟨Mn, 0, Mx⟩, ⟨Mx, 0, 1000000000⟩, ⟨Rho, 0, 100000⟩, ⟨B, 0, 1000000000⟩, ⟨Win, 1, 1000⟩, ⟨St, 1, 1000⟩, ⟨n, 1, 4⟩] : List Bd).all Bd.ok =
      (decide (1 ≤ P ∧ P ≤ 1000000 ∧ 1 ≤ H ∧ H ≤ 32 ∧ H < C ∧ C ≤ 64) && decide (0 ≤ Mn ∧ Mn ≤ Mx ∧ Mx ≤ 1000000000 ∧ 0 ≤ Rho ∧ Rho ≤ 100000 ∧ 0 ≤ B ∧ B ≤ 1000000000) && decide (1 ≤ Win ∧ Win ≤ 1000 ∧ 1 ≤ St ∧ St ≤ 1000 ∧ 1 ≤ n ∧ n ≤ 4)) := by
  by_cases hH : 1 ≤ H ∧ H ≤ 32
  · have e := hq hH
    subst e
    simp only [List.all_cons, List.all_nil, Bool.and_true, Bd.ok]
    rw [Bool.eq_iff_iff]
    simp only [Bool.and_eq_true, decide_eq_true_eq]
    omega
  · rw [Bool.eq_iff_iff]
    simp only [List.all_cons, List.all_nil, Bool.and_true, Bd.ok, Bool.and_eq_true, decide_eq_true_eq]
    constructor
    · intro h
      exact absurd h.2.1 hH
    · intro h
      exact absurd ⟨h.1.1.2.2.1, h.1.1.2.2.2.1⟩ hH

end Go.Proofs.Ytoiaagdpckgpoaa
