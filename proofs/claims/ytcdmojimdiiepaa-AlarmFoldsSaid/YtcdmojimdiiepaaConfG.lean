/- Layer 5: the number of a channel, and the channel of a number. -/
import Derived.Test.YtcdmojimdiiepaaConfF
namespace Go.Proofs.Ytcdmojimdiiepaa
open Go.ChangeShapes Go.WideShapes Go.ChangeAt Go.RowKit Go.Shelf
set_option linter.unusedVariables false
set_option linter.unusedSimpArgs false
attribute [local go_sem] Oper.semAt_some

theorem far {W : World} {b c i j : Nat} {v x : Value} (h : b ≠ c) (hx : W.cell? ⟨b, i, none⟩ = some x) : (W.setCell ⟨c, j, none⟩ v).cell? ⟨b, i, none⟩ = some x := by
  rw [← hx]
  unfold World.cell?
  rw [Below.heap_setCell W ⟨c, j, none⟩ v b h]
def isCh (d h : Int) (x : Nat × Nat) : Bool := ((x.1 : Int) == d) && ((x.2 : Int) == h)
def numI (L : List (Nat × Nat)) (d h : Int) : Int := match L.findIdx? (isCh d h) with | some i => (i : Int) | none => -1
theorem numI_none {L : List (Nat × Nat)} {d h : Int} (H : ∀ y ∈ L, isCh d h y = false) : numI L d h = -1 := by
  unfold numI
  rw [List.findIdx?_eq_none_iff.2 H]
theorem numI_some {L pre : List (Nat × Nat)} {x : Nat × Nat} {d h : Int} (hp : (pre ++ [x]) <+: L) (H : ∀ y ∈ pre, isCh d h y = false) (hx : isCh d h x = true) : numI L d h = (pre.length : Int) := by
  obtain ⟨t, rfl⟩ := hp
  have e : (pre ++ [x] ++ t).findIdx? (isCh d h) = some pre.length := by
    rw [List.append_assoc, List.findIdx?_append, List.findIdx?_eq_none_iff.2 H]
    simp [List.findIdx?_cons, hx]
  unfold numI
  rw [e]

end Go.Proofs.Ytcdmojimdiiepaa
