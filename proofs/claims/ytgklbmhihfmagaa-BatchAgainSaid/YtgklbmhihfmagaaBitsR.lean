/- The document's answers to layer 1. -/
import Derived.Test.YtgklbmhihfmagaaBitsP
namespace Go.Proofs.Ytgklbmhihfmagaa
open Go.ChangeShapes Go.WideShapes Go.ChangeAt Go.RowKit
set_option linter.unusedVariables false
set_option linter.unusedSimpArgs false

theorem rbare_any (n : Int) (w : World) :
    Calls Try.prog 39 #[.int .i64 n] w fun e w' => e = .returned (.int .i64 (bre n)) ∧ w = w' := by
  go_enter Try.func39, Try.ntmps39
  go_wp2
  all_goals go_ret
  all_goals refine ⟨ret_int ?_, rfl⟩
  all_goals (unfold bre; (repeat' split) <;> omega)

set_option maxHeartbeats 1000000 in
theorem rput_no (n m : Int) (w : World) (h : ¬ puts n m) :
    Calls Try.prog 56 #[.int .i64 n, .int .i64 m] w fun e w' => e = .returned (.tuple #[.slice none 0 0, .bool false]) ∧ w = w' := by
  have H := Lib.hid h
  clear h
  by_cases h1 : m < 1
  · go_enter Try.func56, Try.ntmps56
    go_wp2
    all_goals (go_ret2; exact ⟨rfl, rfl⟩)
  by_cases h7 : 7 < m
  · go_enter Try.func56, Try.ntmps56
    go_wp2
    all_goals (go_ret2; exact ⟨rfl, rfl⟩)
  by_cases h0 : n < 0
  · go_enter Try.func56, Try.ntmps56
    go_wp2
    all_goals (go_ret2; exact ⟨rfl, rfl⟩)
  rcases (by omega : m = 1 ∨ m = 2 ∨ m = 3 ∨ m = 4 ∨ m = 5 ∨ m = 6 ∨ m = 7) with rfl | rfl | rfl | rfl | rfl | rfl | rfl
  all_goals
    have h2 : ¬ (n < 256 ^ _) := fun h2 => H.out ⟨by omega, by omega, by omega, h2⟩
    simp at h2
    clear H h1 h7
    go_enter Try.func56, Try.ntmps56
    go_wp2
    go_ret2
    exact ⟨rfl, rfl⟩

theorem putB_get (m : Nat) (n : Int) (j : Nat) (h : j < m) : (putB n m)[m - 1 - j]? = some (n / 256 ^ j % 256) := by
  induction m generalizing n j with
  | zero => omega
  | succ m ih =>
    rw [putB]
    cases j with
    | zero =>
      rw [List.getElem?_append_right (by rw [putB_len]; omega), putB_len]
      simp
    | succ j =>
      rw [List.getElem?_append_left (by rw [putB_len]; omega)]
      have := ih (n / 256) j (by omega)
      rw [show m + 1 - 1 - (j + 1) = m - 1 - j from by omega, this]
      congr 2
      rw [Int.ediv_ediv, if_neg (by omega), Int.pow_succ, Int.mul_comm, Int.sub_zero]

theorem take_step (n : Int) (m j : Nat) (hj : 1 ≤ j) (hm : j ≤ m) : (putB n m).take (m - j + 1) = (putB n m).take (m - j) ++ [n / 256 ^ (j - 1) % 256] := by
  have := putB_get m n (j - 1) (by omega)
  rw [show m - 1 - (j - 1) = m - j from by omega] at this
  rw [List.take_add_one, this]
  rfl

set_option maxHeartbeats 1000000 in
theorem rput_yes (n m : Int) (w : World) (h1 : 1 ≤ m) (h7 : m ≤ 7) (h0 : 0 ≤ n) (hn : n < 256 ^ m.toNat) :
    Calls Try.prog 56 #[.int .i64 n, .int .i64 m] w fun e w' => ∃ v, e = .returned (.tuple #[v, .bool true]) ∧ Bytes w' v (putB n m.toNat) ∧ Below w.heap.size w w' := by
  have hz : m.toNat = 1 ∨ m.toNat = 2 ∨ m.toNat = 3 ∨ m.toNat = 4 ∨ m.toNat = 5 ∨ m.toNat = 6 ∨ m.toNat = 7 := by omega
  have hm : (m.toNat : Int) = m := by omega
  have hbig : n < 72057594037927936 := by
    rcases hz with h | h | h | h | h | h | h <;> rw [h] at hn <;> omega
  have hq : n / 2 ^ (8 * m).toNat = 0 := by
    rw [show (8 * m).toNat = 8 * m.toNat from by omega, Int.pow_mul]
    exact Int.ediv_eq_zero_of_lt h0 hn
  have hlen := Lib.hid (putB_len n m.toNat)
  have hst := Lib.hid (take_step n m.toNat)
  have hrg := Lib.hid (putB_range n m.toNat)
  obtain ⟨M, hM⟩ : ∃ M : Nat, M = m.toNat := ⟨_, rfl⟩
  rw [← hM] at hm hlen hst hrg ⊢
  subst hm
  have hM1 : 1 ≤ M := by omega
  have hM7 : M ≤ 7 := by omega
  clear hz hM hn h1 h7
  go_enter Try.func56, Try.ntmps56
  go_wp2
  go_loopw [6, 7] (fun out i wr => ∃ j : Nat, j ≤ M ∧ i = .int .i64 ((j : Int) - 1) ∧ wr.ownsRow w.heap.size 5 1 out (M - j) (((putB n M).take (M - j)).map (.int .u8)) ∧ Below w.heap.size w wr) (fun _ i _ => (intOf i + 1).toNat)
  case atStart => exact ⟨M, Nat.le_refl _, rfl, by rw [Nat.sub_self]; exact own_nil _ _, Below.refl _ _⟩
  case round =>
    obtain ⟨j, hj, rfl, hown, hb⟩ := hrel
    by_cases hj1 : 1 ≤ j
    · obtain ⟨i, rfl⟩ : ∃ i, j = i + 1 := ⟨j - 1, by omega⟩
      rw [show ((i + 1 : Nat) : Int) - 1 = (i : Int) from by omega]
      have hsh : n / 2 ^ (8 * (i : Int)).toNat = n / 256 ^ i := by
        rw [show (8 * (i : Int)).toNat = 8 * i from by omega, Int.pow_mul]
        rfl
      have hs := hst.out (i + 1) (by omega) hj
      rw [show M - (i + 1) + 1 = M - i from by omega, show i + 1 - 1 = i from by omega] at hs
      have HS := Lib.hid hs
      clear hs
      have hi7 : i < 7 := by omega
      go_wp2_with (at_builtin; refine wpList_app el8 rfl (.tmp 31) (.tmp 37) rfl w.heap.size _ _ _ rfl (hown.alloc _) _ [.int .u8 (n / 256 ^ i % 256)] rfl ?_ ?_ ?_ ?_ ?_ ?_)
      case refine_1 => exact Row.of_block (heap_at _ _ _ rfl) rfl rfl (Nat.le_refl _) (by decide)
      case refine_2 => simp [Value.oneCell']
      case refine_3 => unfold maxLen; simp; omega
      case refine_4 => simp; omega
      case refine_5 => have := hb.size; simp; omega
      case refine_6 =>
        intro v' w1 hown1 hg hat
        have hb1 : Below w.heap.size w w1 := (hb.alloc hb.size _).grown hg (by have := hb.size; simp; omega) (by
          intro g hg'
          rcases hown.2 with ⟨rfl, _⟩ | ⟨g1, cap, cur, rfl, hg1, _⟩
          · simp [Value.ownBlock] at hg'
          · simp [Value.ownBlock] at hg'; omega)
        have hown2 : w1.ownsRow w.heap.size 5 1 v' (M - i) (((putB n M).take (M - i)).map (.int .u8)) := by
          rw [HS.out, List.map_append, show M - i = M - (i + 1) + 1 from by omega]
          simpa using hown1
        clear hown1
        go_wp2
        go_roundw
        case rel => exact ⟨i, by omega, rfl, hown2, hb1⟩
        case measure => simp [intOf]
    · have : j = 0 := by omega
      subst this
      go_wp2
      go_ret2
      rw [Nat.sub_zero, List.take_of_length_le (by rw [hlen.out]; exact Nat.le_refl _)] at hown
      exact ⟨_, rfl, ⟨Row.of_own hown, hrg.out⟩, hb⟩
end Go.Proofs.Ytgklbmhihfmagaa
