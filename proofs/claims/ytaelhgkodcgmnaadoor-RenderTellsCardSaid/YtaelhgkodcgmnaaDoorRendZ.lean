/- Layer 23: One. -/
import Derived.Test.YtaelhgkodcgmnaaDoorRendY
namespace Go.Proofs.YtaelhgkodcgmnaaDoor
open Go.ChangeShapes Go.WideShapes Go.ChangeAt Go.RowKit Go.Deep
open Go.Shelf
set_option linter.unusedVariables false
set_option linter.unusedSimpArgs false

def oneT : Td := ⟨5, [⟨1, -7, 32⟩, ⟨2, 0, 0⟩, ⟨3, 0, 0⟩, ⟨4, 0, 0⟩], [(true, true), (true, false)], [(false, false), (false, true)]⟩
def OneE (e : Ending) (w : World) : Prop := ∃ v, e = .returned v ∧ ToldV w v oneT
set_option maxRecDepth 100000 in
set_option maxHeartbeats 1000000 in
theorem one_any (w : World) : Calls Tryd.prog 22 #[] w fun e w' => OneE e w' ∧ Below w.heap.size w w' := by
  go_enter Tryd.func22, Tryd.ntmps22
  go_wp2_with fail
  refine bodyPost_ret (v := .agg #[.int .i64 5, .slice (some ⟨w.heap.size + 1, 0, none⟩) 4 4, .slice (some ⟨w.heap.size + 1 + 1, 0, none⟩) 2 2, .slice (some ⟨w.heap.size + 1 + 1 + 1, 0, none⟩) 2 2]) (by simp [results, Tryd.results22, go_sem]) rfl ?_
  refine ⟨⟨_, rfl, _, _, _, rfl, ⟨⟨_, _, rfl⟩, ?_⟩, ⟨⟨_, _, rfl⟩, ?_⟩, ⟨_, _, rfl⟩, ?_⟩, by go_grown⟩
  · exact RowN.of_blk (((Blk.new _ _ _ _ (by simp)).al _).al _) rfl rfl (by decide) (by decide)
  · exact RowN.of_blk ((Blk.new _ _ _ _ (by simp)).al _) rfl rfl (by decide) (by decide)
  · exact RowN.of_blk (Blk.new _ _ _ _ (by simp)) rfl rfl (by decide) (by decide)
end Go.Proofs.YtaelhgkodcgmnaaDoor
