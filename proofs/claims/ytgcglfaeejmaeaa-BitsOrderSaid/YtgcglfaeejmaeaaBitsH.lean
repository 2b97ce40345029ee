/- Layer 1's live question. -/
import Derived.Test.YtgcglfaeejmaeaaBitsP
namespace Go.Proofs.Ytgcglfaeejmaeaa
open Go.ChangeShapes Go.WideShapes Go.ChangeAt Go.RowKit

theorem two_bytes : putB 258 (Int.toNat 2) = [1, 2] := by decide
set_option maxHeartbeats 400000 in
theorem head_any (w : World) :
    Calls Try.prog 9 #[] w fun e w' => e = .returned (.bool true) ∧ Below w.heap.size w w' := by
  go_enter Try.func9, Try.ntmps9
  go_wp2_with fail
  refine (put_yes 258 2 _ (by omega) (by omega) (by omega) (by decide)).mono ?_
  rintro e w1 ⟨v1, rfl, hv1, hb1⟩
  rw [two_bytes] at hv1
  go_wp2_with fail
  refine (put_no 256 1 _ (by unfold puts; decide)).mono ?_
  rintro e w2 ⟨rfl, rfl⟩
  go_wp2_with fail
  refine (get_yes _ [1, 2, 3] _ ⟨Row.of_block (heap_alloc_new _ _) rfl rfl (Nat.le_refl _) (by decide), by decide⟩ (by decide) (by decide)).mono ?_
  rintro e w3 ⟨rfl, rfl⟩
  go_wp2_with fail
  refine (get_no _ [] _ Bytes.nil_ (by decide)).mono ?_
  rintro e w4 ⟨rfl, rfl⟩
  go_wp2_with fail
  refine (same_any _ _ [1, 2] [1, 2] _ (hv1.below (((Below.refl _ _).alloc (Nat.le_refl _) _).alloc (by simp) _)) ?_).mono ?_
  · exact ⟨Row.of_block (heap_at _ _ _ (by simp)) rfl rfl (Nat.le_refl _) (by decide), by decide⟩
  rintro e w5 ⟨rfl, rfl⟩
  go_wp2_with fail
  refine (sign_any 65535 _).mono ?_
  rintro e w6 ⟨rfl, rfl⟩
  go_wp2_with fail
  refine (sign_any 32767 _).mono ?_
  rintro e w6 ⟨rfl, rfl⟩
  go_wp2_with fail
  refine (bare_any (-2) _).mono ?_
  rintro e w6 ⟨rfl, rfl⟩
  go_wp2_with fail
  refine (bare_any 40000 _).mono ?_
  rintro e w6 ⟨rfl, rfl⟩
  go_wp2_with fail
  go_ret
  exact ⟨by simp [bre], ((hb1.alloc hb1.size _).alloc (by have := hb1.size; simp; omega) _)⟩
end Go.Proofs.Ytgcglfaeejmaeaa
