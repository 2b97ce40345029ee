/- Layer 23: Great. -/
import Derived.Test.YtaelhgkodcgmnaaDoorRendX
namespace Go.Proofs.YtaelhgkodcgmnaaDoor
open Go.ChangeShapes Go.WideShapes Go.ChangeAt Go.RowKit Go.Deep
open Go.Shelf
set_option linter.unusedVariables false
set_option linter.unusedSimpArgs false

/-- at most 100 of each -/
def smallT (t : Td) : Prop := t.cells.length ≤ 100 ∧ t.rules.length ≤ 100 ∧ t.chans.length ≤ 100
instance (t : Td) : Decidable (smallT t) := by unfold smallT; infer_instance
set_option maxRecDepth 100000 in
set_option maxHeartbeats 1000000 in
theorem great_any (v : Value) (t : Td) (w : World) (h : ToldV w v t) : Calls Tryd.prog 10 #[v] w fun e w' => e = .returned (.bool (!decide (smallT t))) ∧ Below w.heap.size w w' := by
  obtain ⟨vc, vr, vh, rfl, h1, h2, h3⟩ := h
  obtain ⟨CA, cc, rfl⟩ := h1.1
  obtain ⟨RA, rc, rfl⟩ := h2.1
  obtain ⟨HA, hc, rfl⟩ := h3.1
  clear h1 h2 h3
  obtain ⟨r, hr⟩ : ∃ r, r = (!decide (smallT t)) := ⟨_, rfl⟩
  rw [← hr]
  have HR := Lib.hid hr
  clear hr
  go_enter Tryd.func10, Tryd.ntmps10
  by_cases c1 : (100 : Int) < (t.cells.length : Int)
  · go_wp2_with fail
    go_ret
    refine ⟨?_, by go_grown⟩
    rw [HR.out, decide_eq_false (fun h => by have := h.1; omega)]
    rfl
  · by_cases c2 : (100 : Int) < (t.rules.length : Int)
    · go_wp2_with fail
      go_ret
      refine ⟨?_, by go_grown⟩
      rw [HR.out, decide_eq_false (fun h => by have := h.2.1; omega)]
      rfl
    · by_cases c3 : (100 : Int) < (t.chans.length : Int)
      · go_wp2_with fail
        go_ret
        refine ⟨?_, by go_grown⟩
        rw [HR.out, decide_eq_false (fun h => by have := h.2.2; omega)]
        rfl
      · go_wp2_with fail
        go_ret
        refine ⟨?_, by go_grown⟩
        rw [HR.out, decide_eq_true ⟨by omega, by omega, by omega⟩]
        rfl
end Go.Proofs.YtaelhgkodcgmnaaDoor
