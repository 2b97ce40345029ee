/- Layer 2: the table. -/
import Derived.Test.YtkpdfapfcmlhhaaCrc
import Derived.Deep.WholeRow
import Derived.Deep.Cut
import Derived.Laws.ShiftsVarLaws
namespace Go.Proofs.Ytkpdfapfcmlhhaa
open Go.ChangeShapes Go.WideShapes Go.ChangeAt Go.RowKit
set_option linter.unusedVariables false
set_option linter.unusedSimpArgs false

def tabTo (n : Nat) : Array Value := ((List.range 256).map fun j => Value.int .u32 ((if j < n then steps 8 j else 0 : Nat) : Int)).toArray

theorem tab_size (n : Nat) : (tabTo n).size = 256 := by simp [tabTo]
theorem tab_at (n j : Nat) (h : j < 256) : (tabTo n)[j]? = some (.int .u32 ((if j < n then steps 8 j else 0 : Nat) : Int)) := by
  unfold tabTo
  rw [List.getElem?_toArray, List.getElem?_map, List.getElem?_range h]
  rfl
theorem tab_set (n : Nat) (h : n < 256) : (tabTo n).setIfInBounds n (.int .u32 (steps 8 n : Nat)) = tabTo (n + 1) := by
  apply Array.ext_getElem?
  intro j
  by_cases hj : j < 256
  · rw [Array.getElem?_setIfInBounds, tab_at (n + 1) j hj]
    by_cases hjn : n = j
    · subst hjn
      rw [if_pos rfl, if_pos (by rw [tab_size]; exact hj), if_pos (by omega)]
    · rw [if_neg hjn, tab_at n j hj]
      congr 3
      by_cases h1 : j < n
      · rw [if_pos h1, if_pos (by omega)]
      · rw [if_neg h1, if_neg (by omega)]
  · rw [Array.getElem?_eq_none (by rw [Array.size_setIfInBounds, tab_size]; omega), Array.getElem?_eq_none (by rw [tab_size]; omega)]
theorem tab_one (n : Nat) : (tabTo n).all (·.oneCell') = true := by
  simp [tabTo, Value.oneCell']
theorem xor_steps (k r : Nat) (hr : r < 2 ^ k) (hk : k < 8) : bits .xor .u32 ((steps 8 (2 ^ k) : Nat) : Int) ((steps 8 r : Nat) : Int) = ((steps 8 (2 ^ k + r) : Nat) : Int) := by
  have h2 : 2 ^ k ≤ 2 ^ 7 := Nat.pow_le_pow_right (by decide) (by omega)
  have l1 := steps_lt 8 (2 ^ k) (by omega)
  have l2 := steps_lt 8 r (by omega)
  rw [u32_xor_nat _ _ l1 l2, ← steps_xor, ← add_xor k r hr]

theorem zeroT : (Try.prog.info? 51).map (fun i => (i.zero, i.size)) = some (some (.agg (tabTo 1)), 256) := by kernel_rfl
theorem sizeT (n : Nat) : (Try.prog.info? 51).map (·.size) = some (tabTo n).size := by rw [tab_size]; exact (zero_of_info zeroT).2

set_option maxHeartbeats 2000000 in
theorem sums_any (w : World) :
    Calls Try.prog 30 #[] w fun e w' => e = .returned (.agg (tabTo 256)) ∧ Below w.heap.size w w' := by
  have hz := (zero_of_info zeroT).1
  go_enter Try.func30, Try.ntmps30
  go_wp2_with fail
  clear hz
  go_loopw [6] (fun i wr => ∃ k : Nat, k ≤ 8 ∧ i = .int .i64 k ∧ Below w.heap.size w wr ∧ Blk wr w.heap.size 51 (tabTo 1) ∧ Blk wr (w.heap.size + 1) 51 (tabTo (2 ^ k))) (fun i _ => 8 - (intOf i).toNat)
  case atStart => exact ⟨0, by omega, rfl, by go_grown, (Blk.new _ _ _ _ rfl).al _, Blk.new _ _ _ _ (by simp)⟩
  case round =>
    obtain ⟨k, hk, rfl, hb, hr, ht⟩ := hrel
    have HR := Lib.hid hr
    have HT := Lib.hid ht
    clear hr ht
    by_cases hlt : k < 8
    · have hlt' : (k : Int) < 8 := by omega
      have h2 : 2 ^ k ≤ 2 ^ 7 := Nat.pow_le_pow_right (by decide) (by omega)
      have h20 : 0 < 2 ^ k := Nat.two_pow_pos k
      have hw : wrap64 ((2 : Int) ^ k) = ((2 ^ k : Nat) : Int) := by
        have e : (2 : Int) ^ k = ((2 ^ k : Nat) : Int) := by simp
        rw [e]
        exact IntWalk.wrap64_in _ (by omega)
      have HX := Lib.hid (fun r hr => xor_steps k r hr hlt)
      have HE := Lib.hid (show 2 ^ k + 2 ^ k = 2 ^ (k + 1) by rw [Nat.pow_succ]; omega)
      generalize 2 ^ k = b at *
      go_wp2_with fail
      simp only [hw]
      go_wp2_with fail
      refine (eight_any b _ (by omega)).mono ?_
      rintro e w1 ⟨rfl, rfl⟩
      clear hw
      go_wp2_with fail
      go_loopw [15] (fun i wi => ∃ r : Nat, r ≤ b ∧ i = .int .i64 r ∧ Below w.heap.size w wi ∧ Blk wi w.heap.size 51 (tabTo 1) ∧ Blk wi (w.heap.size + 1) 51 (tabTo (b + r))) (fun i _ => b - (intOf i).toNat)
      case atStart => exact ⟨0, by omega, rfl, hb, HR.out, HT.out⟩
      case round =>
        obtain ⟨r, hr, rfl, hbi, hri, hti⟩ := hrel
        clear HR HT hb
        by_cases hltr : r < b
        · have hltr' : (r : Int) < (b : Int) := by omega
          have HRi := Lib.hid hri
          have HTi := Lib.hid hti
          have c1 : wr.cell? ⟨w.heap.size + 1, r, none⟩ = some (.int .u32 (steps 8 r : Nat)) := by
            rw [hti.cells, tab_at _ _ (by omega), if_pos (by omega)]
          have c2 : wr.cell? ⟨w.heap.size + 1, b + r, none⟩ = some (.int .u32 ((0 : Nat) : Int)) := by
            rw [hti.cells, tab_at _ _ (by omega), if_neg (by omega)]
          have fz := hti.froz
          have hx := HX.out r hltr
          have e1 : IntKind.i64.wrap ((b : Int) + (r : Int)) = (b : Int) + (r : Int) := IntWalk.i64_in _ (by omega)
          clear hri hti
          go_wp2_with fail
          go_roundw
          case rel =>
            refine ⟨r + 1, by omega, by go_num, ?_, ?_, ?_⟩
            · clear fz c1 c2; go_grown
            · exact HRi.out.setO (by omega) _ _
            · have h := HTi.out.set (b + r) (.int .u32 (steps 8 (b + r) : Nat))
              rw [tab_set _ (by omega)] at h
              exact h
          case measure => simp [intOf]; omega
        · obtain rfl : r = b := by omega
          have HRi := Lib.hid hri
          rw [HE.out] at hti
          have HTi := Lib.hid hti
          clear hri hti
          go_wp2_with fail
          go_roundw
          case rel => exact ⟨k + 1, by omega, by go_num, hbi, HRi.out, HTi.out⟩
          case measure => simp [intOf]; omega
    · obtain rfl : k = 8 := by omega
      have e256 : (2 : Nat) ^ 8 = 256 := by decide
      rw [e256] at HT
      clear e256
      have ht : wr.heap[w.heap.size + 1]? = some (.cells (tabTo 256) 51 (0, 0)) := HT.out
      have hr : wr.heap[w.heap.size]? = some (.cells (tabTo 1) 51 (0, 0)) := HR.out
      have HT2 := Lib.hid ht
      have HR2 := Lib.hid hr
      clear ht hr
      go_upto_region 13 with (fail)
      refine wp_region_list ?_
      simp only [List.toList_toArray]
      refine wpList_load_row rfl 51 (.tmp 1) rfl (w.heap.size + 1) rfl 51 (tabTo 256) (0, 0) _ HT2.out Try.underlying51 rfl (sizeT 256) ?_
      refine wpList_store_row rfl 51 (.tmp 0) (.tmp 29) rfl w.heap.size (tabTo 256) rfl rfl 51 (tabTo 1) HR2.out (sizeT 256) (by rw [tab_size, tab_size]) (tab_one 256) ?_
      refine wpList_nil ?_
      simp only [Act.put, List.setIfInBounds_toArray, List.set_cons_zero, List.set_cons_succ]
      rename_i KK aa
      refine aa _ _ ?_
      refine wp_ret ?_
      refine bodyPost_ret (v := .agg (tabTo 256)) (results_cell_row rfl _ _ w.heap.size 51 (tabTo 256) (0, 0) _ rfl (setRow_heap _ _ _ _ _ _ HR2.out) Try.underlying51 rfl (sizeT 256)) rfl ⟨rfl, ?_⟩
      exact hb.trans ⟨rfl, rfl, rfl, by simp, fun k hk => setRow_other _ _ _ _ (by omega)⟩
end Go.Proofs.Ytkpdfapfcmlhhaa
