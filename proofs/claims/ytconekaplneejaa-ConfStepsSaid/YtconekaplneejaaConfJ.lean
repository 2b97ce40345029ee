/- Layer 5: bounds. -/
import Derived.Test.YtconekaplneejaaConfI
namespace Go.Proofs.Ytconekaplneejaa
open Go.ChangeShapes Go.WideShapes Go.ChangeAt Go.RowKit
set_option linter.unusedVariables false
set_option linter.unusedSimpArgs false

theorem base_s (w : World) :
    Calls Try.prog 19 #[] w fun e w' => ∃ s, e = .returned (.agg #[.int .i64 10, .int .i64 3, .int .i64 8, .int .i64 0, .int .i64 15, .int .i64 100, .int .i64 40, .int .i64 16, .int .i64 2, s, .slice none 0 0]) ∧ Rows2 w' s [[10, 5], [20]] ∧ Below w.heap.size w w' := by
  go_enter Try.func19, Try.ntmps19
  go_wp2
  go_returns
  refine ⟨_, rfl, ⟨[.slice (some ⟨w.heap.size + 1, 0, none⟩) 2 2, .slice (some ⟨w.heap.size + 1 + 1, 0, none⟩) 1 1], ?_, rfl, ?_⟩, by go_grown⟩
  · exact Row.of_block (heap_at _ _ _ (by simp)) rfl rfl (Nat.le_refl _) (by decide)
  · intro i r hr
    match i, hr with
    | 0, hr =>
      simp at hr
      subst hr
      refine ⟨_, rfl, Row.of_block (cur := #[.int .i64 10, .int .i64 5]) (t := 3) (by rw [Below.heap_alloc _ _ _ (by simp), Below.heap_alloc _ _ _ (by simp)]; exact heap_at _ _ _ (by simp)) rfl rfl (Nat.le_refl _) (by decide)⟩
    | 1, hr =>
      simp at hr
      subst hr
      refine ⟨_, rfl, Row.of_block (cur := #[.int .i64 20]) (t := 3) (by rw [Below.heap_alloc _ _ _ (by simp)]; exact heap_at _ _ _ (by simp)) rfl rfl (Nat.le_refl _) (by decide)⟩

theorem confO_0 (n : Int) : confO ⟨n, 3, 8, 0, 15, 100, 40, 16, 2, [[10, 5], [20]]⟩ = decide (1 ≤ n ∧ n ≤ 1000000) := by
  rw [Bool.eq_iff_iff]
  simp [confO]
  try omega
theorem confO_1 (n : Int) : confO ⟨10, n, 8, 0, 15, 100, 40, 16, 2, [[10, 5], [20]]⟩ = decide (1 ≤ n ∧ n ≤ 7) := by
  rw [Bool.eq_iff_iff]
  simp [confO]
  try omega
theorem confO_2 (n : Int) : confO ⟨10, 3, n, 0, 15, 100, 40, 16, 2, [[10, 5], [20]]⟩ = decide (4 ≤ n ∧ n ≤ 64) := by
  rw [Bool.eq_iff_iff]
  simp [confO]
  try omega
theorem confO_3 (n : Int) : confO ⟨10, 3, 8, n, 15, 100, 40, 16, 2, [[10, 5], [20]]⟩ = decide (0 ≤ n ∧ n ≤ 15) := by
  rw [Bool.eq_iff_iff]
  simp [confO]
  try omega
theorem confO_4 (n : Int) : confO ⟨10, 3, 8, 0, n, 100, 40, 16, 2, [[10, 5], [20]]⟩ = decide (0 ≤ n ∧ n ≤ 1000000000) := by
  rw [Bool.eq_iff_iff]
  simp [confO]
  try omega
theorem confO_5 (n : Int) : confO ⟨10, 3, 8, 0, 15, n, 40, 16, 2, [[10, 5], [20]]⟩ = decide (0 ≤ n ∧ n ≤ 100000) := by
  rw [Bool.eq_iff_iff]
  simp [confO]
  try omega
theorem confO_6 (n : Int) : confO ⟨10, 3, 8, 0, 15, 100, n, 16, 2, [[10, 5], [20]]⟩ = decide (0 ≤ n ∧ n ≤ 1000000000) := by
  rw [Bool.eq_iff_iff]
  simp [confO]
  try omega
theorem confO_7 (n : Int) : confO ⟨10, 3, 8, 0, 15, 100, 40, n, 2, [[10, 5], [20]]⟩ = decide (1 ≤ n ∧ n ≤ 1000) := by
  rw [Bool.eq_iff_iff]
  simp [confO]
  try omega
theorem confO_8 (n : Int) : confO ⟨10, 3, 8, 0, 15, 100, 40, 16, n, [[10, 5], [20]]⟩ = decide (1 ≤ n ∧ n ≤ 1000) := by
  rw [Bool.eq_iff_iff]
  simp [confO]
  try omega

set_option maxRecDepth 100000 in
set_option maxHeartbeats 4000000 in
theorem bounds_0 (what : Nat) (n : Int) (w : World) (hw : what ≤ 255) (hm : (what : Int) % 9 = 0) :
    Calls Try.prog 5 #[.int .u8 (what : Int), .int .i64 n] w fun e w' => e = .returned (.bool true) ∧ Below w.heap.size w w' := by
  have HCO := Lib.hid (confO_0 n)
  have hmt : (what : Int).tmod 9 = 0 := by rw [Int.tmod_eq_emod_of_nonneg (by omega)]; exact hm
  go_enter Try.func5, Try.ntmps5
  go_wp2_with fail
  refine (head_any _).mono ?_
  rintro e w1 ⟨rfl, hb1⟩
  go_wp2_with fail
  refine (base_s _).mono ?_
  rintro e w2 ⟨s, rfl, hs, hk⟩
  have HS := Lib.hid hs
  obtain ⟨A, cp, rfl, _, _, q⟩ := hs.src
  have hb2 := Btrans hb1 hk
  clear hs q hk
  go_wp2_with fail
  refine (right_any _ ⟨n, 3, 8, 0, 15, 100, 40, 16, 2, [[10, 5], [20]]⟩ _ ⟨_, _, rfl, HS.out.below (by go_grown)⟩).mono ?_
  rintro e w3 ⟨rfl, hk⟩
  have hz2 := hb2.size
  have hb3 : Below w.heap.size w w3 := (show Below w.heap.size w _ by go_grown).trans (hk.mono (by simp; omega))
  rw [HCO.out]
  clear hk
  by_cases h1 : 1 ≤ n
  · have g1 : decide (n ≥ 1) = true := decide_eq_true h1
    by_cases h2 : n ≤ 1000000
    · have g2 : decide (n ≤ 1000000) = true := decide_eq_true h2
      have g : decide (1 ≤ n ∧ n ≤ 1000000) = true := decide_eq_true ⟨h1, h2⟩
      rw [g]
      clear h1 h2 g
      go_wp2
      go_ret
      exact ⟨by first | rfl | simp, hb3⟩
    · have g2 : decide (n ≤ 1000000) = false := decide_eq_false h2
      have g : decide (1 ≤ n ∧ n ≤ 1000000) = false := decide_eq_false (fun h => h2 h.2)
      rw [g]
      clear h1 h2 g
      go_wp2
      go_ret
      exact ⟨by first | rfl | simp, hb3⟩
  · have g1 : decide (n ≥ 1) = false := decide_eq_false h1
    have g : decide (1 ≤ n ∧ n ≤ 1000000) = false := decide_eq_false (fun h => h1 h.1)
    rw [g]
    clear h1 g
    go_wp2
    go_ret
    exact ⟨by first | rfl | simp, hb3⟩

set_option maxRecDepth 100000 in
set_option maxHeartbeats 4000000 in
theorem bounds_1 (what : Nat) (n : Int) (w : World) (hw : what ≤ 255) (hm : (what : Int) % 9 = 1) :
    Calls Try.prog 5 #[.int .u8 (what : Int), .int .i64 n] w fun e w' => e = .returned (.bool true) ∧ Below w.heap.size w w' := by
  have HCO := Lib.hid (confO_1 n)
  have hmt : (what : Int).tmod 9 = 1 := by rw [Int.tmod_eq_emod_of_nonneg (by omega)]; exact hm
  go_enter Try.func5, Try.ntmps5
  go_wp2_with fail
  refine (head_any _).mono ?_
  rintro e w1 ⟨rfl, hb1⟩
  go_wp2_with fail
  refine (base_s _).mono ?_
  rintro e w2 ⟨s, rfl, hs, hk⟩
  have HS := Lib.hid hs
  obtain ⟨A, cp, rfl, _, _, q⟩ := hs.src
  have hb2 := Btrans hb1 hk
  clear hs q hk
  go_wp2_with fail
  refine (right_any _ ⟨10, n, 8, 0, 15, 100, 40, 16, 2, [[10, 5], [20]]⟩ _ ⟨_, _, rfl, HS.out.below (by go_grown)⟩).mono ?_
  rintro e w3 ⟨rfl, hk⟩
  have hz2 := hb2.size
  have hb3 : Below w.heap.size w w3 := (show Below w.heap.size w _ by go_grown).trans (hk.mono (by simp; omega))
  rw [HCO.out]
  clear hk
  by_cases h1 : 1 ≤ n
  · have g1 : decide (n ≥ 1) = true := decide_eq_true h1
    by_cases h2 : n ≤ 7
    · have g2 : decide (n ≤ 7) = true := decide_eq_true h2
      have g : decide (1 ≤ n ∧ n ≤ 7) = true := decide_eq_true ⟨h1, h2⟩
      rw [g]
      clear h1 h2 g
      go_wp2
      go_ret
      exact ⟨by first | rfl | simp, hb3⟩
    · have g2 : decide (n ≤ 7) = false := decide_eq_false h2
      have g : decide (1 ≤ n ∧ n ≤ 7) = false := decide_eq_false (fun h => h2 h.2)
      rw [g]
      clear h1 h2 g
      go_wp2
      go_ret
      exact ⟨by first | rfl | simp, hb3⟩
  · have g1 : decide (n ≥ 1) = false := decide_eq_false h1
    have g : decide (1 ≤ n ∧ n ≤ 7) = false := decide_eq_false (fun h => h1 h.1)
    rw [g]
    clear h1 g
    go_wp2
    go_ret
    exact ⟨by first | rfl | simp, hb3⟩

set_option maxRecDepth 100000 in
set_option maxHeartbeats 4000000 in
theorem bounds_2 (what : Nat) (n : Int) (w : World) (hw : what ≤ 255) (hm : (what : Int) % 9 = 2) :
    Calls Try.prog 5 #[.int .u8 (what : Int), .int .i64 n] w fun e w' => e = .returned (.bool true) ∧ Below w.heap.size w w' := by
  have HCO := Lib.hid (confO_2 n)
  have hmt : (what : Int).tmod 9 = 2 := by rw [Int.tmod_eq_emod_of_nonneg (by omega)]; exact hm
  go_enter Try.func5, Try.ntmps5
  go_wp2_with fail
  refine (head_any _).mono ?_
  rintro e w1 ⟨rfl, hb1⟩
  go_wp2_with fail
  refine (base_s _).mono ?_
  rintro e w2 ⟨s, rfl, hs, hk⟩
  have HS := Lib.hid hs
  obtain ⟨A, cp, rfl, _, _, q⟩ := hs.src
  have hb2 := Btrans hb1 hk
  clear hs q hk
  go_wp2_with fail
  refine (right_any _ ⟨10, 3, n, 0, 15, 100, 40, 16, 2, [[10, 5], [20]]⟩ _ ⟨_, _, rfl, HS.out.below (by go_grown)⟩).mono ?_
  rintro e w3 ⟨rfl, hk⟩
  have hz2 := hb2.size
  have hb3 : Below w.heap.size w w3 := (show Below w.heap.size w _ by go_grown).trans (hk.mono (by simp; omega))
  rw [HCO.out]
  clear hk
  by_cases h1 : 4 ≤ n
  · have g1 : decide (n ≥ 4) = true := decide_eq_true h1
    by_cases h2 : n ≤ 64
    · have g2 : decide (n ≤ 64) = true := decide_eq_true h2
      have g : decide (4 ≤ n ∧ n ≤ 64) = true := decide_eq_true ⟨h1, h2⟩
      rw [g]
      clear h1 h2 g
      go_wp2
      go_ret
      exact ⟨by first | rfl | simp, hb3⟩
    · have g2 : decide (n ≤ 64) = false := decide_eq_false h2
      have g : decide (4 ≤ n ∧ n ≤ 64) = false := decide_eq_false (fun h => h2 h.2)
      rw [g]
      clear h1 h2 g
      go_wp2
      go_ret
      exact ⟨by first | rfl | simp, hb3⟩
  · have g1 : decide (n ≥ 4) = false := decide_eq_false h1
    have g : decide (4 ≤ n ∧ n ≤ 64) = false := decide_eq_false (fun h => h1 h.1)
    rw [g]
    clear h1 g
    go_wp2
    go_ret
    exact ⟨by first | rfl | simp, hb3⟩

set_option maxRecDepth 100000 in
set_option maxHeartbeats 4000000 in
theorem bounds_3 (what : Nat) (n : Int) (w : World) (hw : what ≤ 255) (hm : (what : Int) % 9 = 3) :
    Calls Try.prog 5 #[.int .u8 (what : Int), .int .i64 n] w fun e w' => e = .returned (.bool true) ∧ Below w.heap.size w w' := by
  have HCO := Lib.hid (confO_3 n)
  have hmt : (what : Int).tmod 9 = 3 := by rw [Int.tmod_eq_emod_of_nonneg (by omega)]; exact hm
  go_enter Try.func5, Try.ntmps5
  go_wp2_with fail
  refine (head_any _).mono ?_
  rintro e w1 ⟨rfl, hb1⟩
  go_wp2_with fail
  refine (base_s _).mono ?_
  rintro e w2 ⟨s, rfl, hs, hk⟩
  have HS := Lib.hid hs
  obtain ⟨A, cp, rfl, _, _, q⟩ := hs.src
  have hb2 := Btrans hb1 hk
  clear hs q hk
  go_wp2_with fail
  refine (right_any _ ⟨10, 3, 8, n, 15, 100, 40, 16, 2, [[10, 5], [20]]⟩ _ ⟨_, _, rfl, HS.out.below (by go_grown)⟩).mono ?_
  rintro e w3 ⟨rfl, hk⟩
  have hz2 := hb2.size
  have hb3 : Below w.heap.size w w3 := (show Below w.heap.size w _ by go_grown).trans (hk.mono (by simp; omega))
  rw [HCO.out]
  clear hk
  by_cases h1 : 0 ≤ n
  · have g1 : decide (n ≥ 0) = true := decide_eq_true h1
    by_cases h2 : n ≤ 15
    · have g2 : decide (n ≤ 15) = true := decide_eq_true h2
      have g : decide (0 ≤ n ∧ n ≤ 15) = true := decide_eq_true ⟨h1, h2⟩
      rw [g]
      clear h1 h2 g
      go_wp2
      go_ret
      exact ⟨by first | rfl | simp, hb3⟩
    · have g2 : decide (n ≤ 15) = false := decide_eq_false h2
      have g : decide (0 ≤ n ∧ n ≤ 15) = false := decide_eq_false (fun h => h2 h.2)
      rw [g]
      clear h1 h2 g
      go_wp2
      go_ret
      exact ⟨by first | rfl | simp, hb3⟩
  · have g1 : decide (n ≥ 0) = false := decide_eq_false h1
    have g : decide (0 ≤ n ∧ n ≤ 15) = false := decide_eq_false (fun h => h1 h.1)
    rw [g]
    clear h1 g
    go_wp2
    go_ret
    exact ⟨by first | rfl | simp, hb3⟩

set_option maxRecDepth 100000 in
set_option maxHeartbeats 4000000 in
theorem bounds_4 (what : Nat) (n : Int) (w : World) (hw : what ≤ 255) (hm : (what : Int) % 9 = 4) :
    Calls Try.prog 5 #[.int .u8 (what : Int), .int .i64 n] w fun e w' => e = .returned (.bool true) ∧ Below w.heap.size w w' := by
  have HCO := Lib.hid (confO_4 n)
  have hmt : (what : Int).tmod 9 = 4 := by rw [Int.tmod_eq_emod_of_nonneg (by omega)]; exact hm
  go_enter Try.func5, Try.ntmps5
  go_wp2_with fail
  refine (head_any _).mono ?_
  rintro e w1 ⟨rfl, hb1⟩
  go_wp2_with fail
  refine (base_s _).mono ?_
  rintro e w2 ⟨s, rfl, hs, hk⟩
  have HS := Lib.hid hs
  obtain ⟨A, cp, rfl, _, _, q⟩ := hs.src
  have hb2 := Btrans hb1 hk
  clear hs q hk
  go_wp2_with fail
  refine (right_any _ ⟨10, 3, 8, 0, n, 100, 40, 16, 2, [[10, 5], [20]]⟩ _ ⟨_, _, rfl, HS.out.below (by go_grown)⟩).mono ?_
  rintro e w3 ⟨rfl, hk⟩
  have hz2 := hb2.size
  have hb3 : Below w.heap.size w w3 := (show Below w.heap.size w _ by go_grown).trans (hk.mono (by simp; omega))
  rw [HCO.out]
  clear hk
  by_cases h1 : 0 ≤ n
  · have g1 : decide (n ≥ 0) = true := decide_eq_true h1
    by_cases h2 : n ≤ 1000000000
    · have g2 : decide (n ≤ 1000000000) = true := decide_eq_true h2
      have g : decide (0 ≤ n ∧ n ≤ 1000000000) = true := decide_eq_true ⟨h1, h2⟩
      rw [g]
      clear h1 h2 g
      go_wp2
      go_ret
      exact ⟨by first | rfl | simp, hb3⟩
    · have g2 : decide (n ≤ 1000000000) = false := decide_eq_false h2
      have g : decide (0 ≤ n ∧ n ≤ 1000000000) = false := decide_eq_false (fun h => h2 h.2)
      rw [g]
      clear h1 h2 g
      go_wp2
      go_ret
      exact ⟨by first | rfl | simp, hb3⟩
  · have g1 : decide (n ≥ 0) = false := decide_eq_false h1
    have g : decide (0 ≤ n ∧ n ≤ 1000000000) = false := decide_eq_false (fun h => h1 h.1)
    rw [g]
    clear h1 g
    go_wp2
    go_ret
    exact ⟨by first | rfl | simp, hb3⟩

set_option maxRecDepth 100000 in
set_option maxHeartbeats 4000000 in
theorem bounds_5 (what : Nat) (n : Int) (w : World) (hw : what ≤ 255) (hm : (what : Int) % 9 = 5) :
    Calls Try.prog 5 #[.int .u8 (what : Int), .int .i64 n] w fun e w' => e = .returned (.bool true) ∧ Below w.heap.size w w' := by
  have HCO := Lib.hid (confO_5 n)
  have hmt : (what : Int).tmod 9 = 5 := by rw [Int.tmod_eq_emod_of_nonneg (by omega)]; exact hm
  go_enter Try.func5, Try.ntmps5
  go_wp2_with fail
  refine (head_any _).mono ?_
  rintro e w1 ⟨rfl, hb1⟩
  go_wp2_with fail
  refine (base_s _).mono ?_
  rintro e w2 ⟨s, rfl, hs, hk⟩
  have HS := Lib.hid hs
  obtain ⟨A, cp, rfl, _, _, q⟩ := hs.src
  have hb2 := Btrans hb1 hk
  clear hs q hk
  go_wp2_with fail
  refine (right_any _ ⟨10, 3, 8, 0, 15, n, 40, 16, 2, [[10, 5], [20]]⟩ _ ⟨_, _, rfl, HS.out.below (by go_grown)⟩).mono ?_
  rintro e w3 ⟨rfl, hk⟩
  have hz2 := hb2.size
  have hb3 : Below w.heap.size w w3 := (show Below w.heap.size w _ by go_grown).trans (hk.mono (by simp; omega))
  rw [HCO.out]
  clear hk
  by_cases h1 : 0 ≤ n
  · have g1 : decide (n ≥ 0) = true := decide_eq_true h1
    by_cases h2 : n ≤ 100000
    · have g2 : decide (n ≤ 100000) = true := decide_eq_true h2
      have g : decide (0 ≤ n ∧ n ≤ 100000) = true := decide_eq_true ⟨h1, h2⟩
      rw [g]
      clear h1 h2 g
      go_wp2
      go_ret
      exact ⟨by first | rfl | simp, hb3⟩
    · have g2 : decide (n ≤ 100000) = false := decide_eq_false h2
      have g : decide (0 ≤ n ∧ n ≤ 100000) = false := decide_eq_false (fun h => h2 h.2)
      rw [g]
      clear h1 h2 g
      go_wp2
      go_ret
      exact ⟨by first | rfl | simp, hb3⟩
  · have g1 : decide (n ≥ 0) = false := decide_eq_false h1
    have g : decide (0 ≤ n ∧ n ≤ 100000) = false := decide_eq_false (fun h => h1 h.1)
    rw [g]
    clear h1 g
    go_wp2
    go_ret
    exact ⟨by first | rfl | simp, hb3⟩

set_option maxRecDepth 100000 in
set_option maxHeartbeats 4000000 in
theorem bounds_6 (what : Nat) (n : Int) (w : World) (hw : what ≤ 255) (hm : (what : Int) % 9 = 6) :
    Calls Try.prog 5 #[.int .u8 (what : Int), .int .i64 n] w fun e w' => e = .returned (.bool true) ∧ Below w.heap.size w w' := by
  have HCO := Lib.hid (confO_6 n)
  have hmt : (what : Int).tmod 9 = 6 := by rw [Int.tmod_eq_emod_of_nonneg (by omega)]; exact hm
  go_enter Try.func5, Try.ntmps5
  go_wp2_with fail
  refine (head_any _).mono ?_
  rintro e w1 ⟨rfl, hb1⟩
  go_wp2_with fail
  refine (base_s _).mono ?_
  rintro e w2 ⟨s, rfl, hs, hk⟩
  have HS := Lib.hid hs
  obtain ⟨A, cp, rfl, _, _, q⟩ := hs.src
  have hb2 := Btrans hb1 hk
  clear hs q hk
  go_wp2_with fail
  refine (right_any _ ⟨10, 3, 8, 0, 15, 100, n, 16, 2, [[10, 5], [20]]⟩ _ ⟨_, _, rfl, HS.out.below (by go_grown)⟩).mono ?_
  rintro e w3 ⟨rfl, hk⟩
  have hz2 := hb2.size
  have hb3 : Below w.heap.size w w3 := (show Below w.heap.size w _ by go_grown).trans (hk.mono (by simp; omega))
  rw [HCO.out]
  clear hk
  by_cases h1 : 0 ≤ n
  · have g1 : decide (n ≥ 0) = true := decide_eq_true h1
    by_cases h2 : n ≤ 1000000000
    · have g2 : decide (n ≤ 1000000000) = true := decide_eq_true h2
      have g : decide (0 ≤ n ∧ n ≤ 1000000000) = true := decide_eq_true ⟨h1, h2⟩
      rw [g]
      clear h1 h2 g
      go_wp2
      go_ret
      exact ⟨by first | rfl | simp, hb3⟩
    · have g2 : decide (n ≤ 1000000000) = false := decide_eq_false h2
      have g : decide (0 ≤ n ∧ n ≤ 1000000000) = false := decide_eq_false (fun h => h2 h.2)
      rw [g]
      clear h1 h2 g
      go_wp2
      go_ret
      exact ⟨by first | rfl | simp, hb3⟩
  · have g1 : decide (n ≥ 0) = false := decide_eq_false h1
    have g : decide (0 ≤ n ∧ n ≤ 1000000000) = false := decide_eq_false (fun h => h1 h.1)
    rw [g]
    clear h1 g
    go_wp2
    go_ret
    exact ⟨by first | rfl | simp, hb3⟩

set_option maxRecDepth 100000 in
set_option maxHeartbeats 4000000 in
theorem bounds_7 (what : Nat) (n : Int) (w : World) (hw : what ≤ 255) (hm : (what : Int) % 9 = 7) :
    Calls Try.prog 5 #[.int .u8 (what : Int), .int .i64 n] w fun e w' => e = .returned (.bool true) ∧ Below w.heap.size w w' := by
  have HCO := Lib.hid (confO_7 n)
  have hmt : (what : Int).tmod 9 = 7 := by rw [Int.tmod_eq_emod_of_nonneg (by omega)]; exact hm
  go_enter Try.func5, Try.ntmps5
  go_wp2_with fail
  refine (head_any _).mono ?_
  rintro e w1 ⟨rfl, hb1⟩
  go_wp2_with fail
  refine (base_s _).mono ?_
  rintro e w2 ⟨s, rfl, hs, hk⟩
  have HS := Lib.hid hs
  obtain ⟨A, cp, rfl, _, _, q⟩ := hs.src
  have hb2 := Btrans hb1 hk
  clear hs q hk
  go_wp2_with fail
  refine (right_any _ ⟨10, 3, 8, 0, 15, 100, 40, n, 2, [[10, 5], [20]]⟩ _ ⟨_, _, rfl, HS.out.below (by go_grown)⟩).mono ?_
  rintro e w3 ⟨rfl, hk⟩
  have hz2 := hb2.size
  have hb3 : Below w.heap.size w w3 := (show Below w.heap.size w _ by go_grown).trans (hk.mono (by simp; omega))
  rw [HCO.out]
  clear hk
  by_cases h1 : 1 ≤ n
  · have g1 : decide (n ≥ 1) = true := decide_eq_true h1
    by_cases h2 : n ≤ 1000
    · have g2 : decide (n ≤ 1000) = true := decide_eq_true h2
      have g : decide (1 ≤ n ∧ n ≤ 1000) = true := decide_eq_true ⟨h1, h2⟩
      rw [g]
      clear h1 h2 g
      go_wp2
      go_ret
      exact ⟨by first | rfl | simp, hb3⟩
    · have g2 : decide (n ≤ 1000) = false := decide_eq_false h2
      have g : decide (1 ≤ n ∧ n ≤ 1000) = false := decide_eq_false (fun h => h2 h.2)
      rw [g]
      clear h1 h2 g
      go_wp2
      go_ret
      exact ⟨by first | rfl | simp, hb3⟩
  · have g1 : decide (n ≥ 1) = false := decide_eq_false h1
    have g : decide (1 ≤ n ∧ n ≤ 1000) = false := decide_eq_false (fun h => h1 h.1)
    rw [g]
    clear h1 g
    go_wp2
    go_ret
    exact ⟨by first | rfl | simp, hb3⟩

set_option maxRecDepth 100000 in
set_option maxHeartbeats 4000000 in
theorem bounds_8 (what : Nat) (n : Int) (w : World) (hw : what ≤ 255) (hm : (what : Int) % 9 = 8) :
    Calls Try.prog 5 #[.int .u8 (what : Int), .int .i64 n] w fun e w' => e = .returned (.bool true) ∧ Below w.heap.size w w' := by
  have HCO := Lib.hid (confO_8 n)
  have hmt : (what : Int).tmod 9 = 8 := by rw [Int.tmod_eq_emod_of_nonneg (by omega)]; exact hm
  go_enter Try.func5, Try.ntmps5
  go_wp2_with fail
  refine (head_any _).mono ?_
  rintro e w1 ⟨rfl, hb1⟩
  go_wp2_with fail
  refine (base_s _).mono ?_
  rintro e w2 ⟨s, rfl, hs, hk⟩
  have HS := Lib.hid hs
  obtain ⟨A, cp, rfl, _, _, q⟩ := hs.src
  have hb2 := Btrans hb1 hk
  clear hs q hk
  go_wp2_with fail
  refine (right_any _ ⟨10, 3, 8, 0, 15, 100, 40, 16, n, [[10, 5], [20]]⟩ _ ⟨_, _, rfl, HS.out.below (by go_grown)⟩).mono ?_
  rintro e w3 ⟨rfl, hk⟩
  have hz2 := hb2.size
  have hb3 : Below w.heap.size w w3 := (show Below w.heap.size w _ by go_grown).trans (hk.mono (by simp; omega))
  rw [HCO.out]
  clear hk
  by_cases h1 : 1 ≤ n
  · have g1 : decide (n ≥ 1) = true := decide_eq_true h1
    by_cases h2 : n ≤ 1000
    · have g2 : decide (n ≤ 1000) = true := decide_eq_true h2
      have g : decide (1 ≤ n ∧ n ≤ 1000) = true := decide_eq_true ⟨h1, h2⟩
      rw [g]
      clear h1 h2 g
      go_wp2
      go_ret
      exact ⟨by first | rfl | simp, hb3⟩
    · have g2 : decide (n ≤ 1000) = false := decide_eq_false h2
      have g : decide (1 ≤ n ∧ n ≤ 1000) = false := decide_eq_false (fun h => h2 h.2)
      rw [g]
      clear h1 h2 g
      go_wp2
      go_ret
      exact ⟨by first | rfl | simp, hb3⟩
  · have g1 : decide (n ≥ 1) = false := decide_eq_false h1
    have g : decide (1 ≤ n ∧ n ≤ 1000) = false := decide_eq_false (fun h => h1 h.1)
    rw [g]
    clear h1 g
    go_wp2
    go_ret
    exact ⟨by first | rfl | simp, hb3⟩

theorem walk_ConfBounds (what n : Int) (w : World) (w0 : (Lit.int .u8 what).wf = true) (w1 : (Lit.int .i64 n).wf = true) :
    Calls Try.prog 5 #[.int .u8 what, .int .i64 n] w fun e w' => e = .returned (.bool true) ∧ Below w.heap.size w w' := by
  have b := bounds_u8 w0
  obtain ⟨m, rfl⟩ := Int.eq_ofNat_of_zero_le b.1
  have hm : m ≤ 255 := by omega
  rcases (by omega : (m : Int) % 9 = 0 ∨ (m : Int) % 9 = 1 ∨ (m : Int) % 9 = 2 ∨ (m : Int) % 9 = 3 ∨ (m : Int) % 9 = 4 ∨ (m : Int) % 9 = 5 ∨ (m : Int) % 9 = 6 ∨ (m : Int) % 9 = 7 ∨ (m : Int) % 9 = 8) with h | h | h | h | h | h | h | h | h
  · exact bounds_0 m n w hm h
  · exact bounds_1 m n w hm h
  · exact bounds_2 m n w hm h
  · exact bounds_3 m n w hm h
  · exact bounds_4 m n w hm h
  · exact bounds_5 m n w hm h
  · exact bounds_6 m n w hm h
  · exact bounds_7 m n w hm h
  · exact bounds_8 m n w hm h
end Go.Proofs.Ytconekaplneejaa
