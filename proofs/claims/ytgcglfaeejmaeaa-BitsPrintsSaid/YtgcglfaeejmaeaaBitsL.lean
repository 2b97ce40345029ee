/- The laws of layer 1, walked. -/
import Derived.Test.YtgcglfaeejmaeaaBitsH
import Derived.Test.YtgcglfaeejmaeaaBitsR
import Derived.WalkLawsBesides
namespace Go.Proofs.Ytgcglfaeejmaeaa
open Go.ChangeShapes Go.WideShapes Go.ChangeAt Go.RowKit
set_option linter.unusedVariables false

theorem sgn_1 {n : Int} (h : n < 0 ∨ 65536 ≤ n) : sgn n = 0 := by unfold sgn; rw [if_pos h]
theorem sgn_2 {n : Int} (h : 0 ≤ n ∧ n < 32768) : sgn n = n := by unfold sgn; rw [if_neg (by omega), if_neg (by omega)]
theorem sgn_3 {n : Int} (h : 32768 ≤ n ∧ n < 65536) : sgn n = n - 65536 := by unfold sgn; rw [if_neg (by omega), if_pos (by omega)]
theorem bre_1 {n : Int} (h : n < -32768 ∨ 32768 ≤ n) : bre n = 0 := by unfold bre; rw [if_pos h]
theorem bre_2 {n : Int} (h : 0 ≤ n ∧ n < 32768) : bre n = n := by unfold bre; rw [if_neg (by omega), if_neg (by omega)]
theorem bre_3 {n : Int} (h : -32768 ≤ n ∧ n < 0) : bre n = n + 65536 := by unfold bre; rw [if_neg (by omega), if_pos (by omega)]

set_option maxHeartbeats 1000000 in
theorem walk_BitsSigns (n : Int) (w : World) (w0 : (Lit.int .i64 n).wf = true) :
    Calls Try.prog 7 #[.int .i64 n] w fun e w' => e = .returned (.bool true) ∧ Below w.heap.size w w' := by
  clear w0
  rcases (by omega : n < -32768 ∨ (-32768 ≤ n ∧ n < 0) ∨ (0 ≤ n ∧ n < 32768) ∨ (32768 ≤ n ∧ n < 65536) ∨ 65536 ≤ n) with h | h | h | h | h
  case' inl =>
    have hs : sgn n = 0 := sgn_1 (by omega)
    have hb : bre n = 0 := bre_1 (by omega)
    have hsb : sgn (0) = 0 := rfl
  case' inr.inl =>
    have hs : sgn n = 0 := sgn_1 (by omega)
    have hb : bre n = n + 65536 := bre_3 (by omega)
    have hsb : sgn (n + 65536) = n := by rw [sgn_3 (by omega)]; omega
  case' inr.inr.inl =>
    have hs : sgn n = n := sgn_2 (by omega)
    have hb : bre n = n := bre_2 (by omega)
    have hsb : sgn 0 = 0 := rfl
  case' inr.inr.inr.inl =>
    have hs : sgn n = n - 65536 := sgn_3 (by omega)
    have hb : bre n = 0 := bre_1 (by omega)
    have hsb : bre (n - 65536) = n := by rw [bre_3 (by omega)]; omega
  case' inr.inr.inr.inr =>
    have hs : sgn n = 0 := sgn_1 (by omega)
    have hb : bre n = 0 := bre_1 (by omega)
    have hsb : sgn 0 = 0 := rfl
  all_goals
    go_enter Try.func7, Try.ntmps7
    go_wp2_with (first | (go_at_call 9; refine (head_any _).mono ?_; rintro e w1 ⟨rfl, hb1⟩) | (go_at_call 15; refine (sign_any _ _).mono ?_; rintro e w2 ⟨rfl, rfl⟩) | (go_at_call 17; refine (bare_any _ _).mono ?_; rintro e w2 ⟨rfl, rfl⟩))
    go_ret
    exact ⟨by simp [*], hb1⟩

set_option maxHeartbeats 1000000 in
theorem walk_BitsBack (n m : Int) (w : World) (w0 : (Lit.int .i64 n).wf = true) (w1 : (Lit.int .i64 m).wf = true) :
    Calls Try.prog 4 #[.int .i64 n, .int .i64 m] w fun e w' => e = .returned (.bool true) ∧ Below w.heap.size w w' := by
  clear w0 w1
  by_cases hp : puts n m
  · obtain ⟨h1, h7, h0, hn⟩ := hp
    have hnum := num_putB m.toNat n h0 hn
    have hlen := putB_len n m.toNat
    have hP := Lib.hid hn
    clear hn
    go_enter Try.func4, Try.ntmps4
    go_wp2_with fail
    refine (head_any _).mono ?_
    rintro e w1 ⟨rfl, hb1⟩
    go_wp2_with fail
    refine (put_yes n m _ h1 h7 h0 hP.out).mono ?_
    rintro e w2 ⟨v, rfl, hv, hb2⟩
    have hv' := hv
    obtain ⟨⟨A, c, rfl, hc, hm, hA⟩, hr⟩ := hv
    clear hc hm hA hr
    rw [List.length_map, hlen] at hv' ⊢
    go_wp2_with fail
    refine (get_yes _ _ _ hv' (by omega) (by omega)).mono ?_
    rintro e w3 ⟨rfl, rfl⟩
    have hm : ((m.toNat : Nat) : Int) = m := by omega
    go_wp2
    go_ret
    exact ⟨by simp [*], hb1.trans (hb2.mono hb1.size)⟩
  · have hp' := Lib.hid hp
    clear hp
    rcases (by omega : m < 1 ∨ 7 < m ∨ n < 0 ∨ (0 ≤ n ∧ (m = 1 ∨ m = 2 ∨ m = 3 ∨ m = 4 ∨ m = 5 ∨ m = 6 ∨ m = 7))) with h | h | h | h
    case inr.inr.inr =>
      obtain ⟨h0, h⟩ := h
      rcases h with rfl | rfl | rfl | rfl | rfl | rfl | rfl
      all_goals
        have h2 : ¬ (n < 256 ^ _) := fun h2 => hp'.out ⟨by omega, by omega, by omega, h2⟩
        simp at h2
        go_enter Try.func4, Try.ntmps4
        go_wp2_with fail
        refine (head_any _).mono ?_
        rintro e w1 ⟨rfl, hb1⟩
        go_wp2_with fail
        refine (put_no _ _ _ hp'.out).mono ?_
        rintro e w2 ⟨rfl, rfl⟩
        go_wp2
        all_goals (go_ret; exact ⟨rfl, hb1⟩)
    all_goals
      go_enter Try.func4, Try.ntmps4
      go_wp2_with fail
      refine (head_any _).mono ?_
      rintro e w1 ⟨rfl, hb1⟩
      go_wp2_with fail
      refine (put_no _ _ _ hp'.out).mono ?_
      rintro e w2 ⟨rfl, rfl⟩
      go_wp2
      all_goals (go_ret; exact ⟨rfl, hb1⟩)

set_option maxHeartbeats 1000000 in
theorem walk_BitsPrints (v : Value) (bs : List Int) (w : World) (h0 : Ints .u8 w v bs) :
    Calls Try.prog 5 #[v] w fun e w' => e = .returned (.bool true) ∧ Below w.heap.size w w' := by
  have hB := h0.bytes
  obtain ⟨⟨A, c, rfl, hc, hm, _⟩, _⟩ := h0
  rw [List.length_map] at hc hB ⊢
  unfold maxLen at hm
  by_cases hbig : 1000 < bs.length
  · clear hB
    go_enter Try.func5, Try.ntmps5
    go_wp2_with fail
    refine (head_any _).mono ?_
    rintro e w1 ⟨rfl, hb1⟩
    go_wp2
    go_ret
    exact ⟨rfl, hb1⟩
  rcases (by omega : bs.length < 1 ∨ 7 < bs.length ∨ (1 ≤ bs.length ∧ bs.length ≤ 7)) with h1 | h1 | h1
  case inr.inr =>
    have hr := num_range bs hB.2
    have hq := Lib.hid (putB_num bs hB.2)
    have hR := Lib.hid hr
    clear hr
    go_enter Try.func5, Try.ntmps5
    go_wp2_with fail
    refine (head_any _).mono ?_
    rintro e w1 ⟨rfl, hb1⟩
    have hB1 := hB.below hb1
    go_wp2_with fail
    refine (get_yes _ bs _ hB1 (by omega) (by omega)).mono ?_
    rintro e w2 ⟨rfl, rfl⟩
    go_wp2_with fail
    refine (put_yes (num bs) (bs.length : Int) _ (by omega) (by omega) hR.out.1 (by simpa using hR.out.2)).mono ?_
    rintro e w3 ⟨v3, rfl, hv3, hb3⟩
    rw [Int.toNat_natCast, hq.out] at hv3
    go_wp2_with fail
    refine (same_any _ _ _ _ _ hv3 (hB1.below hb3)).mono ?_
    rintro e w4 ⟨rfl, rfl⟩
    go_wp2
    go_ret
    exact ⟨by simp, hb1.trans (hb3.mono hb1.size)⟩
  case' inl => obtain rfl : bs = [] := List.eq_nil_of_length_eq_zero (by omega)
  all_goals
    go_enter Try.func5, Try.ntmps5
    go_wp2_with fail
    refine (head_any _).mono ?_
    rintro e w1 ⟨rfl, hb1⟩
    go_wp2_with fail
    refine (get_no _ _ _ (hB.below hb1) (by first | omega | simp)).mono ?_
    rintro e w2 ⟨rfl, rfl⟩
    go_wp2
    all_goals (go_ret; exact ⟨by simp <;> omega, hb1⟩)
end Go.Proofs.Ytgcglfaeejmaeaa
