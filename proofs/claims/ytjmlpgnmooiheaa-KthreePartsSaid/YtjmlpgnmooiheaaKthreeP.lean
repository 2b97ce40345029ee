/- Layer 17: the law of parts, walked. -/
import Derived.Test.YtjmlpgnmooiheaaKthreeN
namespace Go.Proofs.Ytjmlpgnmooiheaa
open Go.ChangeShapes Go.WideShapes Go.ChangeAt Go.RowKit
set_option linter.unusedVariables false
set_option linter.unusedSimpArgs false

set_option maxHeartbeats 2000000 in
theorem walk_KthreeParts (va : Value) (l : List Int) (vb : Value) (m : List Int) (w : World) (h0 : Ints .i64 w va l) (h1 : Ints .i64 w vb m) :
    Calls Try.prog 8 #[va, vb] w fun e w' => e = .returned (.bool true) ∧ Below w.heap.size w w' := by
  have hX := h0.1
  have hY := h1.1
  clear h0 h1
  have hX0 := hX
  have hY0 := hY
  obtain ⟨A, c, rfl, hc, hm, j0⟩ := hX0
  obtain ⟨B, d, rfl, hd, hn, j1⟩ := hY0
  clear j0 j1
  rw [List.length_map] at hc hX hd hY ⊢
  unfold maxLen at hm hn
  rcases (by omega : 300 < l.length ∨ (l.length ≤ 300 ∧ 300 < m.length) ∨ (l.length ≤ 300 ∧ m.length ≤ 300)) with h | h | h
  case inr.inr =>
    go_enter Try.func8, Try.ntmps8
    go_wp2_with fail
    refine (head_any _).mono ?_
    rintro e w1 ⟨rfl, hb1⟩
    have HX := Lib.hid (hX.below hb1)
    have HY := Lib.hid (hY.below hb1)
    clear hX hY
    have HLX := Lib.hid (show (l.map (Value.int .i64)).length = l.length from List.length_map _)
    have HLY := Lib.hid (show (m.map (Value.int .i64)).length = m.length from List.length_map _)
    go_wp2_with (at_builtin; refine wpList_app el64 rfl (.tmp 20) (.tmp 21) rfl w1.heap.size _ 0 [] rfl (own_empty _ _ _ _ (Nat.le_refl _) rfl) _ (l.map (.int .i64)) rfl (HX.out.below ((Below.refl _ _).alloc (Nat.le_refl _) _)) (one_ints _ _) ?_ ?_ ?_ ?_)
    case refine_1 => rw [HLX.out]; unfold maxLen; omega
    case refine_2 => rw [HLX.out]; omega
    case refine_3 => simp
    intro va2 wa2 owna2 hga2 _
    have hba2 : Below w1.heap.size w1 wa2 := ((Below.refl _ _).alloc (Nat.le_refl _) _).grown hga2 (by simp) (by simp [Value.ownBlock])
    have ownb2 : wa2.ownsRow w1.heap.size 3 1 va2 l.length (l.map (.int .i64)) := by simpa using owna2
    clear owna2 hga2
    go_wp2_with (at_builtin; refine wpList_app el64 rfl (.tmp 22) (.tmp 23) rfl w1.heap.size _ _ _ rfl ownb2 _ (m.map (.int .i64)) rfl (HY.out.below hba2) (one_ints _ _) ?_ ?_ ?_ ?_)
    case refine_1 => rw [HLY.out]; unfold maxLen; omega
    case refine_2 => rw [HLY.out]; omega
    case refine_3 => exact hba2.size
    intro v2 w2 own2 hg2 _
    have hbs2 : Below w1.heap.size w1 w2 := below_app hba2 hba2.size ownb2 hg2 (Nat.le_refl _)
    have hb2 : Below w.heap.size w w2 := hb1.trans (hbs2.mono hb1.size)
    have hrow2 : Row w2 v2 ((l ++ m).map (.int .i64)) := by rw [List.map_append]; exact Row.of_own own2
    clear own2 hg2 ownb2
    have HX2 := Lib.hid (HX.out.below hbs2)
    have HY2 := Lib.hid (HY.out.below hbs2)
    have HR2 := Lib.hid hrow2
    clear hrow2
    go_wp2_with (at_builtin; refine wpList_app el64 rfl (.tmp 25) (.tmp 26) rfl w2.heap.size _ 0 [] rfl (own_empty _ _ _ _ (Nat.le_refl _) rfl) _ (m.map (.int .i64)) rfl (HY2.out.below ((Below.refl _ _).alloc (Nat.le_refl _) _)) (one_ints _ _) ?_ ?_ ?_ ?_)
    case refine_1 => rw [HLY.out]; unfold maxLen; omega
    case refine_2 => rw [HLY.out]; omega
    case refine_3 => simp
    intro va3 wa3 owna3 hga3 _
    have hba3 : Below w2.heap.size w2 wa3 := ((Below.refl _ _).alloc (Nat.le_refl _) _).grown hga3 (by simp) (by simp [Value.ownBlock])
    have ownb3 : wa3.ownsRow w2.heap.size 3 1 va3 m.length (m.map (.int .i64)) := by simpa using owna3
    clear owna3 hga3
    go_wp2_with (at_builtin; refine wpList_app el64 rfl (.tmp 27) (.tmp 28) rfl w2.heap.size _ _ _ rfl ownb3 _ (l.map (.int .i64)) rfl (HX2.out.below hba3) (one_ints _ _) ?_ ?_ ?_ ?_)
    case refine_1 => rw [HLX.out]; unfold maxLen; omega
    case refine_2 => rw [HLX.out]; omega
    case refine_3 => exact hba3.size
    intro v3 w3 own3 hg3 _
    have hbs3 : Below w2.heap.size w2 w3 := below_app hba3 hba3.size ownb3 hg3 (Nat.le_refl _)
    have hb3 : Below w.heap.size w w3 := hb2.trans (hbs3.mono hb2.size)
    have hrow3 : Row w3 v3 ((m ++ l).map (.int .i64)) := by rw [List.map_append]; exact Row.of_own own3
    clear own3 hg3 ownb3
    have HX3 := Lib.hid (HX2.out.below hbs3)
    have HY3 := Lib.hid (HY2.out.below hbs3)
    have HR3 := Lib.hid (HR2.out.below hbs3)
    have HS3 := Lib.hid hrow3
    clear hrow3
    have a1 := all3_app l m
    have a2 := any3_app l m
    have a3 : all3 (m ++ l) = all3 (l ++ m) := by rw [all3_app, all3_app]; exact (laws3 _ _ 1 (all3_tr l) (all3_tr m) (.inl rfl)).1
    have a4 : any3 (m ++ l) = any3 (l ++ m) := by rw [any3_app, any3_app]; exact (laws3 _ _ 1 (any3_tr l) (any3_tr m) (.inl rfl)).2.1
    have a5 := tr_id (all3_tr l)
    have a6 := tr_id (all3_tr m)
    have a7 := tr_id (any3_tr l)
    have a8 := tr_id (any3_tr m)
    rw [a1] at a3
    rw [a2] at a4
    go_wp2_with fail
    refine (all_any _ _ _ HR3.out).mono ?_
    rintro e w4 ⟨rfl, hb4⟩
    go_wp2_with fail
    refine (any_any _ _ _ (HR3.out.below hb4)).mono ?_
    rintro e w5 ⟨rfl, hb5⟩
    go_wp2_with fail
    refine (all_any _ _ _ (HX3.out.below (Btrans hb4 hb5))).mono ?_
    rintro e w6 ⟨rfl, hb6⟩
    go_wp2_with fail
    refine (all_any _ _ _ (HY3.out.below (Btrans hb4 (Btrans hb5 hb6)))).mono ?_
    rintro e w7 ⟨rfl, hb7⟩
    go_wp2_with fail
    refine (and_any _ _ _).mono ?_
    rintro e w8 ⟨rfl, hb8⟩
    have hb38 := Btrans hb4 (Btrans hb5 (Btrans hb6 (Btrans hb7 hb8)))
    go_wp2_with fail
    refine (any_any _ _ _ (HX3.out.below hb38)).mono ?_
    rintro e w9 ⟨rfl, hb9⟩
    go_wp2_with fail
    refine (any_any _ _ _ (HY3.out.below (Btrans hb38 hb9))).mono ?_
    rintro e w10 ⟨rfl, hb10⟩
    go_wp2_with fail
    refine (or_any _ _ _).mono ?_
    rintro e w11 ⟨rfl, hb11⟩
    have hb311 := Btrans hb38 (Btrans hb9 (Btrans hb10 hb11))
    go_wp2_with fail
    refine (all_any _ _ _ (HS3.out.below hb311)).mono ?_
    rintro e w12 ⟨rfl, hb12⟩
    go_wp2_with fail
    refine (any_any _ _ _ (HS3.out.below (Btrans hb311 hb12))).mono ?_
    rintro e w13 ⟨rfl, hb13⟩
    go_wp2
    go_ret
    exact ⟨by simp, Btrans hb3 (Btrans hb311 (Btrans hb12 hb13))⟩
  all_goals
    clear hX hY
    go_enter Try.func8, Try.ntmps8
    go_wp2_with fail
    refine (head_any _).mono ?_
    rintro e w1 ⟨rfl, hb1⟩
    go_wp2
    go_ret
    exact ⟨rfl, hb1⟩
end Go.Proofs.Ytjmlpgnmooiheaa
