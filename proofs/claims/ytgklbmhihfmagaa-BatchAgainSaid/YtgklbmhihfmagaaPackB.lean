/- Layer 4: contracts of the small functions. -/
import Derived.Test.YtgklbmhihfmagaaPackM
import Derived.Deep.RegionHeld3
import Derived.BigRegion
namespace Go.Proofs.Ytgklbmhihfmagaa
open Go.ChangeShapes Go.WideShapes Go.ChangeAt Go.RowKit
set_option linter.unusedVariables false
set_option linter.unusedSimpArgs false

def PkV (w : World) (v : Value) (p : Pk) : Prop :=
  ∃ vs, v = .agg #[.int .i64 p.dev, .int .i64 p.chan, .int .i64 p.boot, .int .i64 p.seq, .int .i64 p.stamp, vs] ∧ Ints .i64 w vs p.vals
theorem PkV.below {w w' : World} {v : Value} {p : Pk} (h : PkV w v p) (hb : Below w.heap.size w w') : PkV w' v p := by
  obtain ⟨vs, h1, h2⟩ := h
  exact ⟨vs, h1, h2.below hb⟩

def numsA (p : Pk) : Array Value := #[.int .i64 p.dev, .int .i64 p.chan, .int .i64 p.boot, .int .i64 p.seq, .int .i64 p.stamp]
def flds : Array Value := #[.int .i64 0, .int .i64 1, .int .i64 1, .int .i64 1, .int .i64 2, .int .i64 1, .int .i64 3, .int .i64 2, .int .i64 5, .int .i64 5]

theorem headOf_any (d c b s t : Int) (vs : Value) (w : World) :
    Calls Try.prog 57 #[.agg #[.int .i64 d, .int .i64 c, .int .i64 b, .int .i64 s, .int .i64 t, vs]] w fun e w' => e = .returned (.agg #[.int .i64 d, .int .i64 c, .int .i64 b, .int .i64 s, .int .i64 t]) ∧ Below w.heap.size w w' := by
  go_enter Try.func57, Try.ntmps57
  go_wp2
  go_returns
  exact ⟨by simp, by go_grown⟩

theorem heads_any (w : World) :
    Calls Try.prog 58 #[] w fun e w' => e = .returned (.agg #[.int .i64 0, .int .i64 1, .int .i64 1, .int .i64 1, .int .i64 2, .int .i64 1, .int .i64 3, .int .i64 2, .int .i64 5, .int .i64 5]) ∧ Below w.heap.size w w' := by
  go_enter Try.func58, Try.ntmps58
  go_wp2
  go_returns
  exact ⟨by simp, by go_grown⟩

def mostOf (l : Int) : Int := if l = 1 then 255 else if l = 2 then 65535 else 1099511627775
theorem most_any (pl l : Int) (hl : l = 1 ∨ l = 2 ∨ l = 5) (w : World) :
    Calls Try.prog 59 #[.agg #[.int .i64 pl, .int .i64 l]] w fun e w' => e = .returned (.int .i64 (mostOf l)) ∧ w.alloc (.cells #[.int .i64 pl, .int .i64 l] 100) = w' := by
  rcases hl with rfl | rfl | rfl
  all_goals
    go_enter Try.func59, Try.ntmps59
    go_wp2
    go_ret
    exact ⟨by simp [mostOf], by simp⟩

theorem valField_any (i : Int) (hi : 0 ≤ i ∧ i ≤ 100) (w : World) :
    Calls Try.prog 61 #[.int .i64 i] w fun e w' => e = .returned (.agg #[.int .i64 (10 + 2 * i), .int .i64 2]) ∧ Below w.heap.size w w' := by
  go_enter Try.func61, Try.ntmps61
  go_wp2
  go_returns
  exact ⟨by simp, by go_grown⟩
end Go.Proofs.Ytgklbmhihfmagaa
