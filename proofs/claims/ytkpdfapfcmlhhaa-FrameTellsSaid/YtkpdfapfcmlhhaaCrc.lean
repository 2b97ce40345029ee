/- Layer 2: contracts. -/
import Derived.Test.YtkpdfapfcmlhhaaCrcN
import Derived.Test.YtkpdfapfcmlhhaaMemB
import Derived.Laws.BitsAll
import Derived.Laws.EntriesVeiled
import Derived.RegionTactic
import Derived.BigRegion
namespace Go.Proofs.Ytkpdfapfcmlhhaa
open Go.ChangeShapes Go.WideShapes Go.ChangeAt Go.RowKit
set_option linter.unusedVariables false
set_option linter.unusedSimpArgs false

theorem steps_succ (k s : Nat) : steps (k + 1) s = step (steps k s) := steps_add k 1 s

theorem and1 (t : Nat) (h : t < 4294967296) : bits .and .u32 (t : Int) 1 = ((t % 2 : Nat) : Int) := by
  have h1 := u32_and_nat t 1 h (by decide)
  rw [Nat.and_one_is_mod] at h1
  exact h1
theorem xor_poly (t : Nat) (h : t < 4294967296) : bits .xor .u32 ((t : Int) / 2) 3988292384 = (((t / 2) ^^^ poly : Nat) : Int) := by
  have h1 := u32_xor_nat (t / 2) poly (by omega) (by decide)
  have e : ((t / 2 : Nat) : Int) = (t : Int) / 2 := by omega
  rw [e] at h1
  exact h1

set_option maxHeartbeats 1000000 in
theorem eight_any (s : Nat) (w : World) (hs : s < 4294967296) :
    Calls Try.prog 32 #[.int .u32 s] w fun e w' => e = .returned (.int .u32 (steps 8 s : Nat)) ∧ w = w' := by
  go_enter Try.func32, Try.ntmps32
  go_wp2
  go_loop [0, 3] (fun v i => ∃ k : Nat, k ≤ 8 ∧ i = .int .i64 k ∧ v = .int .u32 (steps k s : Nat)) (fun _ i => 8 - (intOf i).toNat)
  case atStart => exact ⟨0, by omega, rfl, rfl⟩
  case round =>
    obtain ⟨k, hk, rfl, rfl⟩ := hrel
    by_cases hlt : k < 8
    · have hb := steps_lt k s hs
      have HE := Lib.hid (steps_succ k s)
      generalize steps k s = t at *
      have hlt' : (k : Int) < 8 := by omega
      by_cases ho : t % 2 = 1
      · have ha : (bits .and .u32 (t : Int) 1 == 1) = true := by rw [and1 t hb, ho]; rfl
        have hx := xor_poly t hb
        have HS := Lib.hid (show step t = (t / 2) ^^^ poly by unfold step; rw [if_pos ho])
        clear ho
        go_wp2
        go_round
        case rel => exact ⟨k + 1, by omega, by go_num, by rw [HE.out, HS.out]⟩
        case measure => simp [intOf]; omega
      · have ha : (bits .and .u32 (t : Int) 1 == 1) = false := by rw [and1 t hb, show t % 2 = 0 by omega]; rfl
        have HS := Lib.hid (show step t = t / 2 by unfold step; rw [if_neg ho])
        clear ho
        go_wp2
        go_round
        case rel => exact ⟨k + 1, by omega, by go_num, by rw [HE.out, HS.out]; go_num⟩
        case measure => simp [intOf]; omega
    · obtain rfl : k = 8 := by omega
      go_wp2
      go_ret
      exact ⟨rfl, rfl⟩
end Go.Proofs.Ytkpdfapfcmlhhaa
