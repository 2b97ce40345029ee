/- Layer 2: the document's sums. -/
import Derived.Test.YtkpdfapfcmlhhaaCrcC
namespace Go.Proofs.Ytkpdfapfcmlhhaa
open Go.ChangeShapes Go.WideShapes Go.ChangeAt Go.RowKit
set_option linter.unusedVariables false
set_option linter.unusedSimpArgs false

set_option maxHeartbeats 4000000 in
theorem rmore_any (sum : Int) (v : Value) (l : List Nat) (w : World) (hl : NB w v l) :
    Calls Try.prog 28 #[.int .i64 sum, v] w fun e w' => e = .returned (.int .i64 (more sum l : Nat)) ∧ w = w' := by
  obtain ⟨⟨A, c, rfl, hc, hcm, hA⟩, h256⟩ := hl
  rw [List.length_map] at hc hA ⊢
  unfold maxLen at hcm
  have HC : Hid (∀ (k x : Nat), l[k]? = some x → ∃ ad, A = some ad ∧ w.cell? (ad.add k) = some (.int .u8 (x : Int)) ∧ x < 256) := Lib.hid (by
    intro k x hx
    have hk : k < l.length := (List.getElem?_eq_some_iff.1 hx).1
    rcases hA with ⟨_, h0⟩ | ⟨ad, h1, h2, h3⟩
    · omega
    · exact ⟨ad, h1, h3 k _ (by rw [List.getElem?_map, hx]; rfl), h256 x (List.mem_of_getElem? hx)⟩)
  have HL := Lib.hid h256
  clear hA h256
  have hl32 := low32_lt sum
  have hx0 : bits .xor .u32 IntKind.u32.max (sum % 4294967296) = ((4294967295 - low32 sum : Nat) : Int) := by
    have h := u32_xor_nat 4294967295 (low32 sum) (by decide) hl32
    rw [← not_xor _ hl32] at h
    have e : ((low32 sum : Nat) : Int) = sum % 4294967296 := by unfold low32; omega
    rw [e] at h
    exact h
  have HM := Lib.hid (show more sum l = 4294967295 - feed (4294967295 - low32 sum) l from rfl)
  have hS : 4294967295 - low32 sum < 4294967296 := by omega
  clear hl32
  generalize 4294967295 - low32 sum = S at *
  go_enter Try.func28, Try.ntmps28
  go_wp2_with fail
  clear hx0
  go_loop [5, 6] (fun v i => ∃ k : Nat, k ≤ l.length ∧ i = .int .i64 k ∧ v = .int .u32 (feed S (l.take k) : Nat)) (fun _ i => l.length - (intOf i).toNat)
  case atStart => exact ⟨0, Nat.zero_le _, rfl, rfl⟩
  case round =>
    obtain ⟨k, hk, rfl, rfl⟩ := hrel
    have hft := feed_lt S (l.take k) hS (fun x hx => HL.out x (List.mem_of_mem_take hx))
    by_cases hlt : k < l.length
    · obtain ⟨x, hx⟩ : ∃ x, l[k]? = some x := ⟨_, List.getElem?_eq_getElem hlt⟩
      obtain ⟨ad, rfl, hcx, hx8⟩ := HC.out k x hx
      have HE := Lib.hid (show feed S (l.take (k + 1)) = steps 8 (feed S (l.take k) ^^^ x) by rw [List.take_add_one, hx]; exact feed_snoc _ _ _)
      have hxx := u32_xor_nat (feed S (l.take k)) x hft (by omega)
      have hlx := xor_lt32 (feed S (l.take k)) x hft (by omega)
      clear hx
      generalize feed S (l.take k) = t at *
      generalize t ^^^ x = y at *
      go_wp2_with fail
      clear hxx hcx
      go_loop [5, 7] (fun v i => ∃ j : Nat, j ≤ 8 ∧ i = .int .i64 j ∧ v = .int .u32 (steps j y : Nat)) (fun _ i => 8 - (intOf i).toNat)
      case atStart => exact ⟨0, by omega, rfl, rfl⟩
      case round =>
        obtain ⟨j, hj, rfl, rfl⟩ := hrel
        by_cases hlj : j < 8
        · have hbj := steps_lt j y hlx
          have HJ := Lib.hid (steps_succ j y)
          have hlj' : (j : Int) < 8 := by omega
          generalize steps j y = z at *
          by_cases ho : z % 2 = 1
          · have ha : ((z : Int) % 2 == 1) = true := by rw [beq_iff_eq]; omega
            have hx := xor_poly z hbj
            have HS := Lib.hid (show step z = (z / 2) ^^^ poly by unfold step; rw [if_pos ho])
            clear ho
            go_wp2
            go_round
            case rel => exact ⟨j + 1, by omega, by go_num, by rw [HJ.out, HS.out]⟩
            case measure => simp [intOf]; omega
          · have ha : ((z : Int) % 2 == 1) = false := by rw [beq_eq_false_iff_ne]; omega
            have HS := Lib.hid (show step z = z / 2 by unfold step; rw [if_neg ho])
            clear ho
            go_wp2
            go_round
            case rel => exact ⟨j + 1, by omega, by go_num, by rw [HJ.out, HS.out]; go_num⟩
            case measure => simp [intOf]; omega
        · obtain rfl : j = 8 := by omega
          go_wp2
          go_round
          case rel => exact ⟨k + 1, by omega, by go_num, by rw [HE.out]⟩
          case measure => simp [intOf]; omega
    · have : k = l.length := by omega
      subst this
      rw [List.take_length] at hft
      rw [List.take_length]
      have hx1 : bits .xor .u32 IntKind.u32.max ((feed S l : Nat) : Int) = ((4294967295 - feed S l : Nat) : Int) := by
        have h := u32_xor_nat 4294967295 (feed S l) (by decide) hft
        rw [← not_xor _ hft] at h
        exact h
      have hm : 4294967295 - feed S l < 4294967296 := by omega
      rw [← HM.out] at hx1 hm
      go_wp2
      go_ret
      exact ⟨by simp, rfl⟩

theorem rsum_any (v : Value) (l : List Nat) (w : World) (hl : NB w v l) :
    Calls Try.prog 19 #[v] w fun e w' => e = .returned (.int .i64 (sumN 0 l : Nat)) ∧ w = w' := by
  go_enter Try.func19, Try.ntmps19
  go_wp2_with fail
  refine (rmore_any 0 v l _ hl).mono ?_
  rintro e w1 ⟨rfl, rfl⟩
  go_wp2
  go_ret
  exact ⟨rfl, rfl⟩
end Go.Proofs.Ytkpdfapfcmlhhaa
