/- Layer 5: steps. -/
import Derived.Test.YtconekaplneejaaConfJ
namespace Go.Proofs.Ytconekaplneejaa
open Go.ChangeShapes Go.WideShapes Go.ChangeAt Go.RowKit
set_option linter.unusedVariables false
set_option linter.unusedSimpArgs false

section
variable {H : Type} {enc : TypeId × Value → H} {w : World} {rch : Reach} {b0 : Nat}
def wit22 : Value := .slice none 0 0
theorem arg22_of_trod {v : Value} {d : DataW H} {p : List MemPlace} (hv : Value.okWide Try.prog w rch b0 22 v) (h : DataW.Trod enc Try.prog w 0 (fun _ => true) true 22 v d p) : ∃ rows, Rows2 w v rows := by
  obtain ⟨a0, len0, cap0, rfl⟩ := okWide_slice Try.underlying22 hv
  obtain ⟨fuel, hf⟩ := h
  obtain ⟨rows, h1, _⟩ := rows2_of_trod Try.underlying22 Try.underlying35 Try.underlying3 (by kernel_rfl) (by kernel_rfl) hf
  exact ⟨rows, h1⟩
end
def xB (x : Int) : Bool := decide (1 ≤ x ∧ x ≤ 1000000)
theorem confO_s (rows : List (List Int)) : confO ⟨10, 3, 8, 0, 15, 100, 40, 16, 2, rows⟩ = (decide (1 ≤ rows.length ∧ rows.length ≤ 4) && rows.all rowB) := by
  unfold confO
  have e : (fun r : List Int => decide (1 ≤ r.length ∧ r.length ≤ 4) && r.all fun x => decide (1 ≤ x ∧ x ≤ 1000000)) = rowB := rfl
  simp only
  rw [e]
  congr 1
  rw [Bool.eq_iff_iff]
  simp

set_option maxRecDepth 100000 in
set_option maxHeartbeats 8000000 in
theorem walk_ConfSteps (v : Value) (rows : List (List Int)) (w : World) (h0 : Rows2 w v rows) :
    Calls Try.prog 6 #[v] w fun e w' => e = .returned (.bool true) ∧ Below w.heap.size w w' := by
  have HV := Lib.hid h0
  obtain ⟨A, c, rfl, hc, hcm, _⟩ := h0.src
  clear h0
  go_enter Try.func6, Try.ntmps6
  go_wp2_with fail
  refine (head_any _).mono ?_
  rintro e w1 ⟨rfl, hb1⟩
  go_wp2_with fail
  refine (base_s _).mono ?_
  rintro e w2 ⟨s, rfl, hs, hk⟩
  obtain ⟨A0, cp, rfl, _, _, q⟩ := hs.src
  have hb2 := Btrans hb1 hk
  have hz2 := hb2.size
  clear hs q hk
  go_wp2_with fail
  have HB2 := Lib.hid (Blk.new w2 25 #[.int .i64 10, .int .i64 3, .int .i64 8, .int .i64 0, .int .i64 15, .int .i64 100, .int .i64 40, .int .i64 16, .int .i64 2, .slice A rows.length c, .slice none 0 0] _ rfl)
  refine (great_any _ ⟨10, 3, 8, 0, 15, 100, 40, 16, 2, rows⟩ _ ⟨_, _, rfl, HV.out.below (by go_grown)⟩).mono ?_
  rintro e w3 ⟨rfl, hk⟩
  have hb3 : Below w.heap.size w w3 := (show Below w.heap.size w _ by go_grown).trans (hk.mono (by simp; omega))
  have HB3 := Lib.hid (HB2.out.below hk)
  have hx := HB3.out.cells
  have HV3 := Lib.hid (HV.out.below hb3)
  simp only at *
  clear hk HB2
  cases hg : greatB rows with
  | true =>
    clear hx
    go_wp2
    go_ret
    exact ⟨rfl, hb3⟩
  | false =>
    clear hg
    obtain ⟨A', c', e', _, _, hcell⟩ := HV3.out.src
    injection e' with e1 e2 e3
    subst e1 e3
    have HC := Lib.hid hcell
    have hcell0 := hcell
    clear hcell hcell0 e2
    have HO := Lib.hid (show ∀ k (r : List Int), rows[k]? = some r → (decide (1 ≤ rows.length ∧ rows.length ≤ 4) && (rows.take (k + 1)).all rowB) = ((decide (1 ≤ rows.length ∧ rows.length ≤ 4) && (rows.take k).all rowB) && rowB r) from fun k r hr => by rw [List.take_add_one, hr, Bool.and_assoc]; simp)
    have HCO := Lib.hid (confO_s rows)
    by_cases l1 : rows.length ≥ 1
    rotate_left
    · have g1 : decide ((rows.length : Int) ≥ 1) = false := decide_eq_false (by omega)
      have HL := Lib.hid (show decide (1 ≤ rows.length ∧ rows.length ≤ 4) = false from decide_eq_false (fun h => l1 h.1))
      clear l1
      go_wp2_with fail
      go_loop [5, 6] (fun bv i => ∃ k : Nat, k ≤ rows.length ∧ i = .int .i64 k ∧ bv = .bool (decide (1 ≤ rows.length ∧ rows.length ≤ 4) && (rows.take k).all rowB)) (fun _ i => rows.length - (intOf i).toNat)
      case atStart => exact ⟨0, Nat.zero_le _, rfl, by rw [HL.out]; rfl⟩
      case round =>
        obtain ⟨k, hk, rfl, rfl⟩ := hrel
        by_cases hlt : k < rows.length
        rotate_left
        · have he : k = rows.length := by omega
          subst he
          rw [List.take_length]
          cases hbb : (decide (1 ≤ rows.length ∧ rows.length ≤ 4) && rows.all rowB) with
          | false =>
            have HBB := Lib.hid hbb
            clear hbb
            go_wp2_with fail
            refine (right_any _ ⟨10, 3, 8, 0, 15, 100, 40, 16, 2, rows⟩ _ ⟨_, _, rfl, HV3.out⟩).mono ?_
            rintro e w4 ⟨rfl, hk4⟩
            rw [HCO.out, HBB.out]
            have hb4 := Btrans hb3 hk4
            clear hk4 hx
            go_wp2
            go_ret
            exact ⟨by first | rfl | simp, hb4⟩
          | true =>
            have HBB := Lib.hid hbb
            clear hbb
            go_wp2_with fail
            refine (right_any _ ⟨10, 3, 8, 0, 15, 100, 40, 16, 2, rows⟩ _ ⟨_, _, rfl, HV3.out⟩).mono ?_
            rintro e w4 ⟨rfl, hk4⟩
            rw [HCO.out, HBB.out]
            have hb4 := Btrans hb3 hk4
            clear hk4 hx
            go_wp2
            go_ret
            exact ⟨by first | rfl | simp, hb4⟩
        obtain ⟨r, hr⟩ : ∃ r, rows[k]? = some r := ⟨_, List.getElem?_eq_getElem hlt⟩
        obtain ⟨ad, B, d, rfl, had, c0, hrl, hin⟩ := HC.out k r hr
        have HIN := Lib.hid hin
        have HR := Lib.hid hr
        clear hin hr
        cases hbk : (decide (1 ≤ rows.length ∧ rows.length ≤ 4) && (rows.take k).all rowB) with
        | false =>
          have HBk := Lib.hid hbk
          clear hbk
          go_wp2_with fail
          go_loop [5, 7] (fun bv i => ∃ j : Nat, j ≤ r.length ∧ i = .int .i64 j ∧ bv = .bool (false)) (fun _ i => r.length - (intOf i).toNat)
          case atStart => exact ⟨0, Nat.zero_le _, rfl, rfl⟩
          case round =>
            obtain ⟨j, hj, rfl, rfl⟩ := hrel
            by_cases hjl : j < r.length
            rotate_left
            · have he : j = r.length := by omega
              subst he
              go_wp2
              go_round
              case rel => exact ⟨k + 1, by omega, by go_num, by rw [HO.out k r HR.out, HBk.out]; rfl⟩
              case measure => simp [intOf]; omega
            go_wp2
            go_round
            case rel => exact ⟨j + 1, by omega, by go_num, rfl⟩
            case measure => simp [intOf]; omega
        | true =>
          have HBk := Lib.hid hbk
          clear hbk
          by_cases q1 : r.length ≥ 1
          rotate_left
          · have g1 : decide ((r.length : Int) ≥ 1) = false := decide_eq_false (by omega)
            have HZ := Lib.hid (show rowB r = false by unfold rowB; rw [decide_eq_false (fun h => q1 h.1)]; rfl)
            go_wp2_with fail
            go_loop [5, 7] (fun bv i => ∃ j : Nat, j ≤ r.length ∧ i = .int .i64 j ∧ bv = .bool (false)) (fun _ i => r.length - (intOf i).toNat)
            case atStart => exact ⟨0, Nat.zero_le _, rfl, rfl⟩
            case round =>
              obtain ⟨j, hj, rfl, rfl⟩ := hrel
              by_cases hjl : j < r.length
              rotate_left
              · have he : j = r.length := by omega
                subst he
                go_wp2
                go_round
                case rel => exact ⟨k + 1, by omega, by go_num, by rw [HO.out k r HR.out, HBk.out, HZ.out]; rfl⟩
                case measure => simp [intOf]; omega
              go_wp2
              go_round
              case rel => exact ⟨j + 1, by omega, by go_num, rfl⟩
              case measure => simp [intOf]; omega
          have g1 : decide ((r.length : Int) ≥ 1) = true := decide_eq_true (by omega)
          by_cases q2 : r.length ≤ 4
          rotate_left
          · have g2 : decide ((r.length : Int) ≤ 4) = false := decide_eq_false (by omega)
            have HZ := Lib.hid (show rowB r = false by unfold rowB; rw [decide_eq_false (fun h => q2 h.2)]; rfl)
            go_wp2_with fail
            go_loop [5, 7] (fun bv i => ∃ j : Nat, j ≤ r.length ∧ i = .int .i64 j ∧ bv = .bool (false)) (fun _ i => r.length - (intOf i).toNat)
            case atStart => exact ⟨0, Nat.zero_le _, rfl, rfl⟩
            case round =>
              obtain ⟨j, hj, rfl, rfl⟩ := hrel
              by_cases hjl : j < r.length
              rotate_left
              · have he : j = r.length := by omega
                subst he
                go_wp2
                go_round
                case rel => exact ⟨k + 1, by omega, by go_num, by rw [HO.out k r HR.out, HBk.out, HZ.out]; rfl⟩
                case measure => simp [intOf]; omega
              go_wp2
              go_round
              case rel => exact ⟨j + 1, by omega, by go_num, rfl⟩
              case measure => simp [intOf]; omega
          have g2 : decide ((r.length : Int) ≤ 4) = true := decide_eq_true (by omega)
          have HZ := Lib.hid (show rowB r = r.all xB by unfold rowB; rw [decide_eq_true (show 1 ≤ r.length ∧ r.length ≤ 4 from ⟨q1, q2⟩), Bool.true_and]; rfl)
          go_wp2_with fail
          go_loop [5, 7] (fun bv i => ∃ j : Nat, j ≤ r.length ∧ i = .int .i64 j ∧ bv = .bool ((r.take j).all xB)) (fun _ i => r.length - (intOf i).toNat)
          case atStart => exact ⟨0, Nat.zero_le _, rfl, rfl⟩
          case round =>
            obtain ⟨j, hj, rfl, rfl⟩ := hrel
            by_cases hjl : j < r.length
            rotate_left
            · have he : j = r.length := by omega
              subst he
              rw [List.take_length]
              go_wp2
              go_round
              case rel => exact ⟨k + 1, by omega, by go_num, by rw [HO.out k r HR.out, HBk.out, HZ.out, Bool.true_and]⟩
              case measure => simp [intOf]; omega
            obtain ⟨x, hx⟩ : ∃ x, r[j]? = some x := ⟨_, List.getElem?_eq_getElem hjl⟩
            obtain ⟨bd, rfl, hbd, c1⟩ := HIN.out j x hx
            have HX := Lib.hid (show (r.take (j + 1)).all xB = ((r.take j).all xB && xB x) by rw [List.take_add_one, hx]; simp)
            clear hx
            cases hb2 : (r.take j).all xB with
            | false =>
              have HB2 := Lib.hid hb2
              clear hb2
              go_wp2
              go_round
              case rel => exact ⟨j + 1, by omega, by go_num, by rw [HX.out, HB2.out]; rfl⟩
              case measure => simp [intOf]; omega
            | true =>
              have HB2 := Lib.hid hb2
              clear hb2
              by_cases q1 : x ≥ 1
              · have g1 : decide (x ≥ 1) = true := decide_eq_true q1
                by_cases q2 : x ≤ 1000000
                · have g2 : decide (x ≤ 1000000) = true := decide_eq_true q2
                  have HQ := Lib.hid (show xB x = true from decide_eq_true ⟨q1, q2⟩)
                  clear q1 q2
                  go_wp2
                  go_round
                  case rel => exact ⟨j + 1, by omega, by go_num, by rw [HX.out, HB2.out, HQ.out]; rfl⟩
                  case measure => simp [intOf]; omega
                · have g2 : decide (x ≤ 1000000) = false := decide_eq_false q2
                  have HQ := Lib.hid (show xB x = false from decide_eq_false (fun h => q2 h.2))
                  clear q1 q2
                  go_wp2
                  go_round
                  case rel => exact ⟨j + 1, by omega, by go_num, by rw [HX.out, HB2.out, HQ.out]; rfl⟩
                  case measure => simp [intOf]; omega
              · have g1 : decide (x ≥ 1) = false := decide_eq_false q1
                have HQ := Lib.hid (show xB x = false from decide_eq_false (fun h => q1 h.1))
                clear q1
                go_wp2
                go_round
                case rel => exact ⟨j + 1, by omega, by go_num, by rw [HX.out, HB2.out, HQ.out]; rfl⟩
                case measure => simp [intOf]; omega
    have g1 : decide ((rows.length : Int) ≥ 1) = true := decide_eq_true (by omega)
    by_cases l2 : rows.length ≤ 4
    rotate_left
    · have g2 : decide ((rows.length : Int) ≤ 4) = false := decide_eq_false (by omega)
      have HL := Lib.hid (show decide (1 ≤ rows.length ∧ rows.length ≤ 4) = false from decide_eq_false (fun h => l2 h.2))
      clear l2
      go_wp2_with fail
      go_loop [5, 6] (fun bv i => ∃ k : Nat, k ≤ rows.length ∧ i = .int .i64 k ∧ bv = .bool (decide (1 ≤ rows.length ∧ rows.length ≤ 4) && (rows.take k).all rowB)) (fun _ i => rows.length - (intOf i).toNat)
      case atStart => exact ⟨0, Nat.zero_le _, rfl, by rw [HL.out]; rfl⟩
      case round =>
        obtain ⟨k, hk, rfl, rfl⟩ := hrel
        by_cases hlt : k < rows.length
        rotate_left
        · have he : k = rows.length := by omega
          subst he
          rw [List.take_length]
          cases hbb : (decide (1 ≤ rows.length ∧ rows.length ≤ 4) && rows.all rowB) with
          | false =>
            have HBB := Lib.hid hbb
            clear hbb
            go_wp2_with fail
            refine (right_any _ ⟨10, 3, 8, 0, 15, 100, 40, 16, 2, rows⟩ _ ⟨_, _, rfl, HV3.out⟩).mono ?_
            rintro e w4 ⟨rfl, hk4⟩
            rw [HCO.out, HBB.out]
            have hb4 := Btrans hb3 hk4
            clear hk4 hx
            go_wp2
            go_ret
            exact ⟨by first | rfl | simp, hb4⟩
          | true =>
            have HBB := Lib.hid hbb
            clear hbb
            go_wp2_with fail
            refine (right_any _ ⟨10, 3, 8, 0, 15, 100, 40, 16, 2, rows⟩ _ ⟨_, _, rfl, HV3.out⟩).mono ?_
            rintro e w4 ⟨rfl, hk4⟩
            rw [HCO.out, HBB.out]
            have hb4 := Btrans hb3 hk4
            clear hk4 hx
            go_wp2
            go_ret
            exact ⟨by first | rfl | simp, hb4⟩
        obtain ⟨r, hr⟩ : ∃ r, rows[k]? = some r := ⟨_, List.getElem?_eq_getElem hlt⟩
        obtain ⟨ad, B, d, rfl, had, c0, hrl, hin⟩ := HC.out k r hr
        have HIN := Lib.hid hin
        have HR := Lib.hid hr
        clear hin hr
        cases hbk : (decide (1 ≤ rows.length ∧ rows.length ≤ 4) && (rows.take k).all rowB) with
        | false =>
          have HBk := Lib.hid hbk
          clear hbk
          go_wp2_with fail
          go_loop [5, 7] (fun bv i => ∃ j : Nat, j ≤ r.length ∧ i = .int .i64 j ∧ bv = .bool (false)) (fun _ i => r.length - (intOf i).toNat)
          case atStart => exact ⟨0, Nat.zero_le _, rfl, rfl⟩
          case round =>
            obtain ⟨j, hj, rfl, rfl⟩ := hrel
            by_cases hjl : j < r.length
            rotate_left
            · have he : j = r.length := by omega
              subst he
              go_wp2
              go_round
              case rel => exact ⟨k + 1, by omega, by go_num, by rw [HO.out k r HR.out, HBk.out]; rfl⟩
              case measure => simp [intOf]; omega
            go_wp2
            go_round
            case rel => exact ⟨j + 1, by omega, by go_num, rfl⟩
            case measure => simp [intOf]; omega
        | true =>
          have HBk := Lib.hid hbk
          clear hbk
          by_cases q1 : r.length ≥ 1
          rotate_left
          · have g1 : decide ((r.length : Int) ≥ 1) = false := decide_eq_false (by omega)
            have HZ := Lib.hid (show rowB r = false by unfold rowB; rw [decide_eq_false (fun h => q1 h.1)]; rfl)
            go_wp2_with fail
            go_loop [5, 7] (fun bv i => ∃ j : Nat, j ≤ r.length ∧ i = .int .i64 j ∧ bv = .bool (false)) (fun _ i => r.length - (intOf i).toNat)
            case atStart => exact ⟨0, Nat.zero_le _, rfl, rfl⟩
            case round =>
              obtain ⟨j, hj, rfl, rfl⟩ := hrel
              by_cases hjl : j < r.length
              rotate_left
              · have he : j = r.length := by omega
                subst he
                go_wp2
                go_round
                case rel => exact ⟨k + 1, by omega, by go_num, by rw [HO.out k r HR.out, HBk.out, HZ.out]; rfl⟩
                case measure => simp [intOf]; omega
              go_wp2
              go_round
              case rel => exact ⟨j + 1, by omega, by go_num, rfl⟩
              case measure => simp [intOf]; omega
          have g1 : decide ((r.length : Int) ≥ 1) = true := decide_eq_true (by omega)
          by_cases q2 : r.length ≤ 4
          rotate_left
          · have g2 : decide ((r.length : Int) ≤ 4) = false := decide_eq_false (by omega)
            have HZ := Lib.hid (show rowB r = false by unfold rowB; rw [decide_eq_false (fun h => q2 h.2)]; rfl)
            go_wp2_with fail
            go_loop [5, 7] (fun bv i => ∃ j : Nat, j ≤ r.length ∧ i = .int .i64 j ∧ bv = .bool (false)) (fun _ i => r.length - (intOf i).toNat)
            case atStart => exact ⟨0, Nat.zero_le _, rfl, rfl⟩
            case round =>
              obtain ⟨j, hj, rfl, rfl⟩ := hrel
              by_cases hjl : j < r.length
              rotate_left
              · have he : j = r.length := by omega
                subst he
                go_wp2
                go_round
                case rel => exact ⟨k + 1, by omega, by go_num, by rw [HO.out k r HR.out, HBk.out, HZ.out]; rfl⟩
                case measure => simp [intOf]; omega
              go_wp2
              go_round
              case rel => exact ⟨j + 1, by omega, by go_num, rfl⟩
              case measure => simp [intOf]; omega
          have g2 : decide ((r.length : Int) ≤ 4) = true := decide_eq_true (by omega)
          have HZ := Lib.hid (show rowB r = r.all xB by unfold rowB; rw [decide_eq_true (show 1 ≤ r.length ∧ r.length ≤ 4 from ⟨q1, q2⟩), Bool.true_and]; rfl)
          go_wp2_with fail
          go_loop [5, 7] (fun bv i => ∃ j : Nat, j ≤ r.length ∧ i = .int .i64 j ∧ bv = .bool ((r.take j).all xB)) (fun _ i => r.length - (intOf i).toNat)
          case atStart => exact ⟨0, Nat.zero_le _, rfl, rfl⟩
          case round =>
            obtain ⟨j, hj, rfl, rfl⟩ := hrel
            by_cases hjl : j < r.length
            rotate_left
            · have he : j = r.length := by omega
              subst he
              rw [List.take_length]
              go_wp2
              go_round
              case rel => exact ⟨k + 1, by omega, by go_num, by rw [HO.out k r HR.out, HBk.out, HZ.out, Bool.true_and]⟩
              case measure => simp [intOf]; omega
            obtain ⟨x, hx⟩ : ∃ x, r[j]? = some x := ⟨_, List.getElem?_eq_getElem hjl⟩
            obtain ⟨bd, rfl, hbd, c1⟩ := HIN.out j x hx
            have HX := Lib.hid (show (r.take (j + 1)).all xB = ((r.take j).all xB && xB x) by rw [List.take_add_one, hx]; simp)
            clear hx
            cases hb2 : (r.take j).all xB with
            | false =>
              have HB2 := Lib.hid hb2
              clear hb2
              go_wp2
              go_round
              case rel => exact ⟨j + 1, by omega, by go_num, by rw [HX.out, HB2.out]; rfl⟩
              case measure => simp [intOf]; omega
            | true =>
              have HB2 := Lib.hid hb2
              clear hb2
              by_cases q1 : x ≥ 1
              · have g1 : decide (x ≥ 1) = true := decide_eq_true q1
                by_cases q2 : x ≤ 1000000
                · have g2 : decide (x ≤ 1000000) = true := decide_eq_true q2
                  have HQ := Lib.hid (show xB x = true from decide_eq_true ⟨q1, q2⟩)
                  clear q1 q2
                  go_wp2
                  go_round
                  case rel => exact ⟨j + 1, by omega, by go_num, by rw [HX.out, HB2.out, HQ.out]; rfl⟩
                  case measure => simp [intOf]; omega
                · have g2 : decide (x ≤ 1000000) = false := decide_eq_false q2
                  have HQ := Lib.hid (show xB x = false from decide_eq_false (fun h => q2 h.2))
                  clear q1 q2
                  go_wp2
                  go_round
                  case rel => exact ⟨j + 1, by omega, by go_num, by rw [HX.out, HB2.out, HQ.out]; rfl⟩
                  case measure => simp [intOf]; omega
              · have g1 : decide (x ≥ 1) = false := decide_eq_false q1
                have HQ := Lib.hid (show xB x = false from decide_eq_false (fun h => q1 h.1))
                clear q1
                go_wp2
                go_round
                case rel => exact ⟨j + 1, by omega, by go_num, by rw [HX.out, HB2.out, HQ.out]; rfl⟩
                case measure => simp [intOf]; omega
    have g2 : decide ((rows.length : Int) ≤ 4) = true := decide_eq_true (by omega)
    have HL := Lib.hid (show decide (1 ≤ rows.length ∧ rows.length ≤ 4) = true from decide_eq_true ⟨l1, l2⟩)
    go_wp2_with fail
    go_loop [5, 6] (fun bv i => ∃ k : Nat, k ≤ rows.length ∧ i = .int .i64 k ∧ bv = .bool (decide (1 ≤ rows.length ∧ rows.length ≤ 4) && (rows.take k).all rowB)) (fun _ i => rows.length - (intOf i).toNat)
    case atStart => exact ⟨0, Nat.zero_le _, rfl, by rw [HL.out]; rfl⟩
    case round =>
      obtain ⟨k, hk, rfl, rfl⟩ := hrel
      by_cases hlt : k < rows.length
      rotate_left
      · have he : k = rows.length := by omega
        subst he
        rw [List.take_length]
        cases hbb : (decide (1 ≤ rows.length ∧ rows.length ≤ 4) && rows.all rowB) with
        | false =>
          have HBB := Lib.hid hbb
          clear hbb
          go_wp2_with fail
          refine (right_any _ ⟨10, 3, 8, 0, 15, 100, 40, 16, 2, rows⟩ _ ⟨_, _, rfl, HV3.out⟩).mono ?_
          rintro e w4 ⟨rfl, hk4⟩
          rw [HCO.out, HBB.out]
          have hb4 := Btrans hb3 hk4
          clear hk4 hx
          go_wp2
          go_ret
          exact ⟨by first | rfl | simp, hb4⟩
        | true =>
          have HBB := Lib.hid hbb
          clear hbb
          go_wp2_with fail
          refine (right_any _ ⟨10, 3, 8, 0, 15, 100, 40, 16, 2, rows⟩ _ ⟨_, _, rfl, HV3.out⟩).mono ?_
          rintro e w4 ⟨rfl, hk4⟩
          rw [HCO.out, HBB.out]
          have hb4 := Btrans hb3 hk4
          clear hk4 hx
          go_wp2
          go_ret
          exact ⟨by first | rfl | simp, hb4⟩
      obtain ⟨r, hr⟩ : ∃ r, rows[k]? = some r := ⟨_, List.getElem?_eq_getElem hlt⟩
      obtain ⟨ad, B, d, rfl, had, c0, hrl, hin⟩ := HC.out k r hr
      have HIN := Lib.hid hin
      have HR := Lib.hid hr
      clear hin hr
      cases hbk : (decide (1 ≤ rows.length ∧ rows.length ≤ 4) && (rows.take k).all rowB) with
      | false =>
        have HBk := Lib.hid hbk
        clear hbk
        go_wp2_with fail
        go_loop [5, 7] (fun bv i => ∃ j : Nat, j ≤ r.length ∧ i = .int .i64 j ∧ bv = .bool (false)) (fun _ i => r.length - (intOf i).toNat)
        case atStart => exact ⟨0, Nat.zero_le _, rfl, rfl⟩
        case round =>
          obtain ⟨j, hj, rfl, rfl⟩ := hrel
          by_cases hjl : j < r.length
          rotate_left
          · have he : j = r.length := by omega
            subst he
            go_wp2
            go_round
            case rel => exact ⟨k + 1, by omega, by go_num, by rw [HO.out k r HR.out, HBk.out]; rfl⟩
            case measure => simp [intOf]; omega
          go_wp2
          go_round
          case rel => exact ⟨j + 1, by omega, by go_num, rfl⟩
          case measure => simp [intOf]; omega
      | true =>
        have HBk := Lib.hid hbk
        clear hbk
        by_cases q1 : r.length ≥ 1
        rotate_left
        · have g1 : decide ((r.length : Int) ≥ 1) = false := decide_eq_false (by omega)
          have HZ := Lib.hid (show rowB r = false by unfold rowB; rw [decide_eq_false (fun h => q1 h.1)]; rfl)
          go_wp2_with fail
          go_loop [5, 7] (fun bv i => ∃ j : Nat, j ≤ r.length ∧ i = .int .i64 j ∧ bv = .bool (false)) (fun _ i => r.length - (intOf i).toNat)
          case atStart => exact ⟨0, Nat.zero_le _, rfl, rfl⟩
          case round =>
            obtain ⟨j, hj, rfl, rfl⟩ := hrel
            by_cases hjl : j < r.length
            rotate_left
            · have he : j = r.length := by omega
              subst he
              go_wp2
              go_round
              case rel => exact ⟨k + 1, by omega, by go_num, by rw [HO.out k r HR.out, HBk.out, HZ.out]; rfl⟩
              case measure => simp [intOf]; omega
            go_wp2
            go_round
            case rel => exact ⟨j + 1, by omega, by go_num, rfl⟩
            case measure => simp [intOf]; omega
        have g1 : decide ((r.length : Int) ≥ 1) = true := decide_eq_true (by omega)
        by_cases q2 : r.length ≤ 4
        rotate_left
        · have g2 : decide ((r.length : Int) ≤ 4) = false := decide_eq_false (by omega)
          have HZ := Lib.hid (show rowB r = false by unfold rowB; rw [decide_eq_false (fun h => q2 h.2)]; rfl)
          go_wp2_with fail
          go_loop [5, 7] (fun bv i => ∃ j : Nat, j ≤ r.length ∧ i = .int .i64 j ∧ bv = .bool (false)) (fun _ i => r.length - (intOf i).toNat)
          case atStart => exact ⟨0, Nat.zero_le _, rfl, rfl⟩
          case round =>
            obtain ⟨j, hj, rfl, rfl⟩ := hrel
            by_cases hjl : j < r.length
            rotate_left
            · have he : j = r.length := by omega
              subst he
              go_wp2
              go_round
              case rel => exact ⟨k + 1, by omega, by go_num, by rw [HO.out k r HR.out, HBk.out, HZ.out]; rfl⟩
              case measure => simp [intOf]; omega
            go_wp2
            go_round
            case rel => exact ⟨j + 1, by omega, by go_num, rfl⟩
            case measure => simp [intOf]; omega
        have g2 : decide ((r.length : Int) ≤ 4) = true := decide_eq_true (by omega)
        have HZ := Lib.hid (show rowB r = r.all xB by unfold rowB; rw [decide_eq_true (show 1 ≤ r.length ∧ r.length ≤ 4 from ⟨q1, q2⟩), Bool.true_and]; rfl)
        go_wp2_with fail
        go_loop [5, 7] (fun bv i => ∃ j : Nat, j ≤ r.length ∧ i = .int .i64 j ∧ bv = .bool ((r.take j).all xB)) (fun _ i => r.length - (intOf i).toNat)
        case atStart => exact ⟨0, Nat.zero_le _, rfl, rfl⟩
        case round =>
          obtain ⟨j, hj, rfl, rfl⟩ := hrel
          by_cases hjl : j < r.length
          rotate_left
          · have he : j = r.length := by omega
            subst he
            rw [List.take_length]
            go_wp2
            go_round
            case rel => exact ⟨k + 1, by omega, by go_num, by rw [HO.out k r HR.out, HBk.out, HZ.out, Bool.true_and]⟩
            case measure => simp [intOf]; omega
          obtain ⟨x, hx⟩ : ∃ x, r[j]? = some x := ⟨_, List.getElem?_eq_getElem hjl⟩
          obtain ⟨bd, rfl, hbd, c1⟩ := HIN.out j x hx
          have HX := Lib.hid (show (r.take (j + 1)).all xB = ((r.take j).all xB && xB x) by rw [List.take_add_one, hx]; simp)
          clear hx
          cases hb2 : (r.take j).all xB with
          | false =>
            have HB2 := Lib.hid hb2
            clear hb2
            go_wp2
            go_round
            case rel => exact ⟨j + 1, by omega, by go_num, by rw [HX.out, HB2.out]; rfl⟩
            case measure => simp [intOf]; omega
          | true =>
            have HB2 := Lib.hid hb2
            clear hb2
            by_cases q1 : x ≥ 1
            · have g1 : decide (x ≥ 1) = true := decide_eq_true q1
              by_cases q2 : x ≤ 1000000
              · have g2 : decide (x ≤ 1000000) = true := decide_eq_true q2
                have HQ := Lib.hid (show xB x = true from decide_eq_true ⟨q1, q2⟩)
                clear q1 q2
                go_wp2
                go_round
                case rel => exact ⟨j + 1, by omega, by go_num, by rw [HX.out, HB2.out, HQ.out]; rfl⟩
                case measure => simp [intOf]; omega
              · have g2 : decide (x ≤ 1000000) = false := decide_eq_false q2
                have HQ := Lib.hid (show xB x = false from decide_eq_false (fun h => q2 h.2))
                clear q1 q2
                go_wp2
                go_round
                case rel => exact ⟨j + 1, by omega, by go_num, by rw [HX.out, HB2.out, HQ.out]; rfl⟩
                case measure => simp [intOf]; omega
            · have g1 : decide (x ≥ 1) = false := decide_eq_false q1
              have HQ := Lib.hid (show xB x = false from decide_eq_false (fun h => q1 h.1))
              clear q1
              go_wp2
              go_round
              case rel => exact ⟨j + 1, by omega, by go_num, by rw [HX.out, HB2.out, HQ.out]; rfl⟩
              case measure => simp [intOf]; omega
end Go.Proofs.Ytconekaplneejaa
