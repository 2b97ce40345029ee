/- Layer 23: the laws: what they begin with. -/
import Derived.Test.YtaelhgkodcgmnaaDoorRendAL
import Derived.Handy
import Derived.IntWalk
namespace Go.Proofs.YtaelhgkodcgmnaaDoor
open Go.ChangeShapes Go.WideShapes Go.ChangeAt Go.RowKit Go.Deep
open Go.Shelf
set_option linter.unusedVariables false
set_option linter.unusedSimpArgs false

def wit25 : Value := .agg #[.int .i64 0, .slice none 0 0, .slice none 0 0, .slice none 0 0]
def wit26 : Value := .slice none 0 0
theorem small_sz {t : Td} (h : smallT t) : t.cells.length + t.rules.length + t.chans.length ≤ 1000000 := by
  obtain ⟨h1, h2, h3⟩ := h
  omega
theorem small_str {t : Td} (h : smallT t) (h6 : td64 t) : (strB (lineR t)).size ≤ 5000 := by
  rw [Lib.size_eq, strB_data]
  exact line_len h h6
theorem great_no {t : Td} (h : smallT t) : (!decide (smallT t)) = false := by rw [decide_eq_true h]; rfl
theorem great_yes {t : Td} (h : ¬ smallT t) : (!decide (smallT t)) = true := by rw [decide_eq_false h]; rfl
theorem line_none {t : Td} (h : ¬ tdR t) : lineR t = [] := if_neg h
theorem read_nil : readR [] = none := by
  cases h : readR [] with
  | none => rfl
  | some t => exact absurd rfl (read_some h).2.2
theorem cmp_ne {l : Str} (h : l ≠ []) : ((strB l).toList == []) = false := by
  rw [toList_data, strB_data, beq_eq_false_iff_ne]
  exact h
end Go.Proofs.YtaelhgkodcgmnaaDoor
