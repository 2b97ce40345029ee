/- Layer 23: all (cells). -/
import Derived.Test.YtaelhgkodcgmnaaDoorRendZ
namespace Go.Proofs.YtaelhgkodcgmnaaDoor
open Go.ChangeShapes Go.WideShapes Go.ChangeAt Go.RowKit Go.Deep
open Go.Shelf
set_option linter.unusedVariables false
set_option linter.unusedSimpArgs false

/-- make of length 0 -/
theorem make0C (n : Nat) (hn : n ≤ 4294967296) (w : World) : ∃ cs : Array Value, cs.size = n * 3 ∧ (Instr.makeSlice 22 (.int .i64 0) (.int .i64 (n : Int))).run Tryd.prog w = .ok (.slice (some ⟨w.heap.size, 0, none⟩) 0 n) (w.alloc (.cells cs 44)) := by
  have hinfo : (Tryd.prog.info? 44).map (fun i => (i.zero, i.size, i.bytes)) = some (some (.agg #[.int .i64 0, .int .i64 0, .int .i64 0]), 3, 24) := by kernel_rfl
  obtain ⟨i, hi, hzz⟩ := Option.map_eq_some_iff.1 hinfo
  simp only [Prod.mk.injEq] at hzz
  obtain ⟨hz, hs, hb⟩ := hzz
  have hr := run_make (P := Tryd.prog) w 22 44 i _ Tryd.underlying22 hi hz .i64 .i64 0 (n : Int) (by omega) (by omega) (by rw [hb]; omega) (by omega)
  exact ⟨_, by simp [madeCells, hs], hr⟩
def AllC (w w' : World) (ps : List ByteArray) (e : Ending) : Prop := ∃ v o l, e = .returned (.tuple #[v, .bool o]) ∧ w'.ownsRow w.heap.size 44 3 v l.length (tk f3 l) ∧ allR cellR (D ps) = if o = true then some l else none
/-- make of length 0 -/
theorem make0A (n : Nat) (hn : n ≤ 4294967296) (w : World) : ∃ cs : Array Value, cs.size = n * 2 ∧ (Instr.makeSlice 23 (.int .i64 0) (.int .i64 (n : Int))).run Tryd.prog w = .ok (.slice (some ⟨w.heap.size, 0, none⟩) 0 n) (w.alloc (.cells cs 51)) := by
  have hinfo : (Tryd.prog.info? 51).map (fun i => (i.zero, i.size, i.bytes)) = some (some (.agg #[.bool false, .bool false]), 2, 2) := by kernel_rfl
  obtain ⟨i, hi, hzz⟩ := Option.map_eq_some_iff.1 hinfo
  simp only [Prod.mk.injEq] at hzz
  obtain ⟨hz, hs, hb⟩ := hzz
  have hr := run_make (P := Tryd.prog) w 23 51 i _ Tryd.underlying23 hi hz .i64 .i64 0 (n : Int) (by omega) (by omega) (by rw [hb]; omega) (by omega)
  exact ⟨_, by simp [madeCells, hs], hr⟩
def AllA (w w' : World) (ps : List ByteArray) (e : Ending) : Prop := ∃ v o l, e = .returned (.tuple #[v, .bool o]) ∧ w'.ownsRow w.heap.size 51 2 v l.length (tk f2 l) ∧ allR alarmR (D ps) = if o = true then some l else none
end Go.Proofs.YtaelhgkodcgmnaaDoor
