/- Layer 5: the channel of a number. -/
import Derived.Test.YtcdmojimdiiepaaConfG
namespace Go.Proofs.Ytcdmojimdiiepaa
open Go.ChangeShapes Go.WideShapes Go.ChangeAt Go.RowKit Go.Shelf
set_option linter.unusedVariables false
set_option linter.unusedSimpArgs false
attribute [local go_sem] Oper.semAt_some

def ofO (L : List (Nat × Nat)) (n : Int) : Bool := decide (0 ≤ n ∧ n < (L.length : Int))
def ofX (L : List (Nat × Nat)) (n : Int) : Nat × Nat := if ofO L n = true then L[n.toNat]?.getD (0, 0) else (0, 0)
theorem of_none {L : List (Nat × Nat)} {n : Int} (H : ∀ i : Nat, i < L.length → (i : Int) ≠ n) : ofO L n = false := by
  refine decide_eq_false fun h => H n.toNat (by omega) (by omega)
theorem of_some {L pre : List (Nat × Nat)} {x : Nat × Nat} {n : Int} (hp : (pre ++ [x]) <+: L) (hn : (pre.length : Int) = n) : ofO L n = true ∧ ofX L n = x := by
  obtain ⟨t, rfl⟩ := hp
  have h1 : ofO (pre ++ [x] ++ t) n = true := decide_eq_true ⟨by omega, by simp; omega⟩
  refine ⟨h1, ?_⟩
  unfold ofX
  rw [if_pos h1, ← hn, Int.toNat_natCast, List.append_assoc, List.getElem?_append_right (Nat.le_refl _), Nat.sub_self]
  rfl

end Go.Proofs.Ytcdmojimdiiepaa
