/- Layer 20: the live question. -/
import Derived.Test.YtaegkeafikkijaaTechE
namespace Go.Proofs.Ytaegkeafikkijaa
open Go.ChangeShapes Go.WideShapes Go.ChangeAt Go.RowKit
set_option linter.unusedVariables false
set_option linter.unusedSimpArgs false

set_option maxRecDepth 100000 in
set_option maxHeartbeats 4000000 in
theorem head_any (w : World) :
    Calls Try.prog 9 #[] w fun e w' => e = .returned (.bool true) ∧ Below w.heap.size w w' := by
  have f1 : alarms 2 [false, false, false, true, false, true] [true, false, false, false, false, true] = [(false, false), (true, true), (true, true), (true, false), (true, false), (false, false)] := by decide
  have f2 : alarms 1 [false, true, false] [true] = [(true, true), (false, false), (true, true)] := by decide
  have f3 : rightT 2 ⟨1, false, false, false⟩ = true := by decide
  have f4 : rightT 2 ⟨2, false, false, false⟩ = false := by decide
  go_enter Try.func9, Try.ntmps9
  go_wp2_with fail
  refine (tsteps_any 2 _ _ [false, false, false, true, false, true] [true, false, false, false, false, true] _ (by decide) (by decide) (Row.of_block ((Blk.new w 4 #[.bool false, .bool false, .bool false, .bool true, .bool false, .bool true] _ rfl).al _) rfl rfl (Nat.le_refl _) (by decide)) (Row.of_block (Blk.new _ 4 #[.bool true, .bool false, .bool false, .bool false, .bool false, .bool true] _ (by simp)) rfl rfl (Nat.le_refl _) (by decide)) (by decide)).mono ?_
  rintro e w1 ⟨v1, rfl, r1, k1⟩
  have b1 : Below w.heap.size w w1 := (show Below w.heap.size w _ by go_grown).trans (k1.mono (by simp; omega))
  have R1 := Lib.hid r1
  clear r1 k1
  go_wp2_with fail
  refine (tsteps_any 1 _ _ [false, true, false] [true] _ (by decide) (by decide) (Row.of_block ((Blk.new w1 4 #[.bool false, .bool true, .bool false] _ rfl).al _) rfl rfl (Nat.le_refl _) (by decide)) (Row.of_block (Blk.new _ 4 #[.bool true] _ (by simp)) rfl rfl (Nat.le_refl _) (by decide)) (by decide)).mono ?_
  rintro e w2 ⟨v2, rfl, r2, k2⟩
  have b12 : Below w1.heap.size w1 w2 := (show Below w1.heap.size w1 _ by go_grown).trans (k2.mono (by simp; omega))
  have b2 := b1.trans (b12.mono b1.size)
  have R2 := Lib.hid r2
  have R12 := Lib.hid (R1.out.below b12)
  clear r2 k2 R1 b12 b1
  simp only [f1, f2] at R2 R12
  clear f1 f2
  go_wp2_with fail
  refine (same_any _ _ _ 6 _ [(false, false), (true, true), (true, true), (true, false), (true, false), (false, false)] _ (R12.out.below (by go_grown)) (RowN.of_blk (Blk.new w2 35 #[.bool false, .bool false, .bool true, .bool true, .bool true, .bool true, .bool true, .bool false, .bool true, .bool false, .bool false, .bool false] _ rfl) rfl rfl (Nat.le_refl _) (by decide))).mono ?_
  rintro e w3 ⟨rfl, k3⟩
  have b23 : Below w2.heap.size w2 w3 := (show Below w2.heap.size w2 _ by go_grown).trans (k3.mono (by simp))
  have b3 := b2.trans (b23.mono b2.size)
  have R3 := Lib.hid (R2.out.below b23)
  clear k3 b23 b2 R2 R12
  go_wp2_with fail
  refine (same_any _ _ _ 3 _ [(true, true), (false, false), (true, true)] _ (R3.out.below (by go_grown)) (RowN.of_blk (Blk.new w3 35 #[.bool true, .bool true, .bool false, .bool false, .bool true, .bool true] _ rfl) rfl rfl (Nat.le_refl _) (by decide))).mono ?_
  rintro e w4 ⟨rfl, k4⟩
  have b34 : Below w3.heap.size w3 w4 := (show Below w3.heap.size w3 _ by go_grown).trans (k4.mono (by simp))
  have b4 := b3.trans (b34.mono b3.size)
  clear k4 b34 b3 R3
  go_wp2_with fail
  refine (tright_any 2 ⟨1, false, false, false⟩ _).mono ?_
  rintro e w5 ⟨rfl, k5⟩
  rw [f3]
  have b5 := b4.trans (k5.mono b4.size)
  go_wp2_with fail
  refine (tright_any 2 ⟨2, false, false, false⟩ _).mono ?_
  rintro e w6 ⟨rfl, k6⟩
  rw [f4]
  have b6 := b5.trans (k6.mono b5.size)
  go_wp2
  go_ret
  exact ⟨by simp, b6⟩
end Go.Proofs.Ytaegkeafikkijaa
