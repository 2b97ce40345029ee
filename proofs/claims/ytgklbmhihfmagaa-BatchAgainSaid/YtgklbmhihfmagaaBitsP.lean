/- Contracts of layer 1, which make memory: Put; the text's equality of bytes; the live question. -/
import Derived.Test.YtgklbmhihfmagaaBits
namespace Go.Proofs.Ytgklbmhihfmagaa
open Go.ChangeShapes Go.WideShapes Go.ChangeAt Go.RowKit

theorem el8 : Elem Try.prog 28 5 1 1 := Elem.mk' (z := .int .u8 0) Try.underlying28 (by kernel_rfl) rfl (by omega)

set_option maxHeartbeats 1000000 in
theorem put_yes (n m : Int) (w : World) (h1 : 1 ≤ m) (h7 : m ≤ 7) (h0 : 0 ≤ n) (hn : n < 256 ^ m.toNat) :
    Calls Try.prog 70 #[.int .i64 n, .int .i64 m] w fun e w' => ∃ v, e = .returned (.tuple #[v, .bool true]) ∧ Bytes w' v (putB n m.toNat) ∧ Below w.heap.size w w' := by
  have hl := putB_len n m.toNat
  have hr := putB_range n m.toNat
  obtain ⟨bs, hbs⟩ : ∃ bs, bs = putB n m.toNat := ⟨_, rfl⟩
  rw [← hbs] at hl hr ⊢
  rcases (by omega : m = 1 ∨ m = 2 ∨ m = 3 ∨ m = 4 ∨ m = 5 ∨ m = 6 ∨ m = 7) with rfl | rfl | rfl | rfl | rfl | rfl | rfl
  all_goals
    have hn' := hn
    simp at hn' hl
    have HB := Lib.hid hbs
    have HL := Lib.hid hl
    have HR := Lib.hid hr
    clear hn hbs hl hr
    go_enter Try.func70, Try.ntmps70
    go_wp2
    refine wp_loop_rounds 8 ?_
    repeat
      rw [rounds_succ]
      go_wp2_with (at_builtin; refine wpList_app el8 rfl (.const (.slice none 0 0)) (.tmp 40) rfl w.heap.size _ 0 [] rfl (own_nil _ _) _ (bs.map (.int .u8)) rfl ?_ (one_ints _ _) ?_ ?_ ?_ ?_)
    case refine_1 =>
      refine Row.of_block (heap_alloc_new _ _) ?_ (by rw [List.length_map, HL.out]) (Nat.le_refl _) (by unfold maxLen; omega)
      rw [HB.out]
      simp [putB]
      try omega
    case refine_2 => rw [List.length_map, HL.out]; unfold maxLen; omega
    case refine_3 => rw [List.length_map, HL.out]; omega
    case refine_4 => simp
    case refine_5 =>
      intro v' w1 hown hg _
      go_wp2
      go_ret2
      exact ⟨v', rfl, ⟨Row.of_own hown, HR.out⟩, ((Below.refl _ _).alloc (Nat.le_refl _) _).grown hg (by simp) (by simp [Value.ownBlock])⟩

def puts (n m : Int) : Prop := 1 ≤ m ∧ m ≤ 7 ∧ 0 ≤ n ∧ n < 256 ^ m.toNat

set_option maxHeartbeats 1000000 in
theorem put_no (n m : Int) (w : World) (h : ¬ puts n m) :
    Calls Try.prog 70 #[.int .i64 n, .int .i64 m] w fun e w' => e = .returned (.tuple #[.slice none 0 0, .bool false]) ∧ w = w' := by
  have H := Lib.hid h
  clear h
  by_cases h1 : m < 1
  · go_enter Try.func70, Try.ntmps70
    go_wp2
    all_goals (go_ret2; exact ⟨rfl, rfl⟩)
  by_cases h7 : 7 < m
  · go_enter Try.func70, Try.ntmps70
    go_wp2
    all_goals (go_ret2; exact ⟨rfl, rfl⟩)
  by_cases h0 : n < 0
  · go_enter Try.func70, Try.ntmps70
    go_wp2
    all_goals (go_ret2; exact ⟨rfl, rfl⟩)
  rcases (by omega : m = 1 ∨ m = 2 ∨ m = 3 ∨ m = 4 ∨ m = 5 ∨ m = 6 ∨ m = 7) with rfl | rfl | rfl | rfl | rfl | rfl | rfl
  all_goals
    have h2 : ¬ (n < 256 ^ _) := fun h2 => H.out ⟨by omega, by omega, by omega, h2⟩
    simp at h2
    clear H h1 h7
    go_enter Try.func70, Try.ntmps70
    go_wp2
    go_ret2
    exact ⟨rfl, rfl⟩

end Go.Proofs.Ytgklbmhihfmagaa
