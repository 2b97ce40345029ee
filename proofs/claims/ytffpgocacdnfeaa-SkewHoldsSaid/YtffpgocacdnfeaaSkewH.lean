/- Layer 10: the live question. -/
import Derived.Test.YtffpgocacdnfeaaSkewA
namespace Go.Proofs.Ytffpgocacdnfeaa
open Go.ChangeShapes Go.WideShapes Go.ChangeAt Go.RowKit
set_option linter.unusedVariables false
set_option linter.unusedSimpArgs false

theorem base_x (w : World) :
    Calls Try.prog 20 #[] w fun e w' => ∃ s, e = .returned (.agg #[.int .i64 10, .int .i64 3, .int .i64 8, .int .i64 0, .int .i64 15, .int .i64 100, .int .i64 40, .int .i64 16, .int .i64 2, s, .slice none 0 0]) ∧ Rows2 w' s [[10, 5], [20]] ∧ Below w.heap.size w w' := by
  go_enter Try.func20, Try.ntmps20
  go_wp2
  go_returns
  refine ⟨_, rfl, ⟨[.slice (some ⟨w.heap.size + 1, 0, none⟩) 2 2, .slice (some ⟨w.heap.size + 1 + 1, 0, none⟩) 1 1], ?_, rfl, ?_⟩, by go_grown⟩
  · exact Row.of_block (heap_at _ _ _ (by simp)) rfl rfl (Nat.le_refl _) (by decide)
  · intro i r hr
    match i, hr with
    | 0, hr =>
      simp at hr
      subst hr
      refine ⟨_, rfl, Row.of_block (cur := #[.int .i64 10, .int .i64 5]) (t := 3) (by rw [Below.heap_alloc _ _ _ (by simp), Below.heap_alloc _ _ _ (by simp)]; exact heap_at _ _ _ (by simp)) rfl rfl (Nat.le_refl _) (by decide)⟩
    | 1, hr =>
      simp at hr
      subst hr
      refine ⟨_, rfl, Row.of_block (cur := #[.int .i64 20]) (t := 3) (by rw [Below.heap_alloc _ _ _ (by simp)]; exact heap_at _ _ _ (by simp)) rfl rfl (Nat.le_refl _) (by decide)⟩

def C0 : Cf := ⟨10, 3, 8, 0, 15, 100, 40, 16, 2, [[10, 5], [20]]⟩
theorem confC0 {w : World} {s r : Value} (h : Rows2 w s [[10, 5], [20]]) : IsConf w (.agg #[.int .i64 10, .int .i64 3, .int .i64 8, .int .i64 0, .int .i64 15, .int .i64 100, .int .i64 40, .int .i64 16, .int .i64 2, s, r]) C0 := ⟨s, r, rfl, h⟩

set_option maxRecDepth 100000 in
set_option maxHeartbeats 4000000 in
theorem head_any (w : World) :
    Calls Try.prog 8 #[] w fun e w' => e = .returned (.bool true) ∧ Below w.heap.size w w' := by
  have f1 : toldLo C0 100 12 = -4 := by decide
  have f2 : toldHi C0 100 12 = 20 := by decide
  have f3 : lookO C0 false 0 0 0 100 12 = true := by decide
  have f4 : lookLo C0 false 0 0 0 100 12 = -4 := by decide
  have f5 : lookHi C0 false 0 0 0 100 12 = 20 := by decide
  have f6 : lookO C0 true 100 (-4) 20 120 13 = true := by decide
  have f7 : lookLo C0 true 100 (-4) 20 120 13 = -5 := by decide
  have f8 : lookHi C0 true 100 (-4) 20 120 13 = 10 := by decide
  have f9 : lookO C0 true 100 (-4) 20 120 99 = false := by decide
  have f10 : 130 + (-5 - drf C0.Rho (130 - 120)) = 124 := by decide
  have f11 : 130 + (10 + drf C0.Rho (130 - 120)) = 141 := by decide
  have f12 : estO true 100 (-4) 20 = true := by decide
  have f13 : estO false 0 1 0 = false := by decide
  go_enter Try.func8, Try.ntmps8
  go_wp2_with fail
  refine (base_x _).mono ?_
  rintro e w1 ⟨s, rfl, hr1, hb1⟩
  have hs : ∃ A cp, s = .slice A 2 cp := by
    obtain ⟨vs, h1, h2, _⟩ := hr1
    obtain ⟨A, cp, e1, _, _⟩ := h1.shape
    exact ⟨A, cp, by rw [e1, h2]; rfl⟩
  obtain ⟨A, cp, rfl⟩ := hs
  have HR1 := Lib.hid hr1
  clear hr1
  go_wp2_with fail
  have HB2 := Lib.hid (Blk.new w1 25 #[.int .i64 10, .int .i64 3, .int .i64 8, .int .i64 0, .int .i64 15, .int .i64 100, .int .i64 40, .int .i64 16, .int .i64 2, .slice A 2 cp, .slice none 0 0] w1.heap.size rfl)
  have hq1 : ∀ o, Below w1.heap.size w1 (w1.alloc o) := fun o => (Below.refl _ _).alloc (Nat.le_refl _) _
  refine (told_any _ C0 100 12 _ (confC0 (HR1.out.below (hq1 _))) (by decide) (by decide) (by decide) (by decide) (by decide)).mono ?_
  rintro e w2 ⟨rfl, hk2⟩
  have hb2 : Below w.heap.size w w2 := (hb1.alloc hb1.size _).trans (hk2.mono (by have := hb1.size; simp; omega))
  have hb12 : Below w1.heap.size w1 w2 := (hq1 _).trans (hk2.mono (by simp))
  have HB := Lib.hid (HB2.out.below hk2)
  have HR := Lib.hid (HR1.out.below hb12)
  clear HB2 hk2 hq1 HR1 hb12
  generalize w1.heap.size = b1 at *
  clear hb1
  have hx := HB.out.cells
  go_wp2_with fail
  refine (look_any _ C0 false 0 0 0 100 12 _ (confC0 HR.out) (by decide) (by decide) (by decide) (by decide) (by decide) (by decide) (by decide) (by decide) (by decide)).mono ?_
  rintro e w3 ⟨rfl, hk3⟩
  have hb3 := hb2.trans (hk3.mono hb2.size)
  have HB3 := Lib.hid (HB.out.below hk3)
  have HR3 := Lib.hid (HR.out.below hk3)
  clear hx HB HR hk3 hb2
  have hx := HB3.out.cells
  have hlt := HB3.out.lt
  simp only [f3, f4, f5]
  go_wp2_with fail
  have HN4 := Lib.hid (Blk.new w3 31 #[.bool true, .int .i64 100, .int .i64 (-4), .int .i64 20] w3.heap.size rfl)
  have hal : ∀ o, Below w3.heap.size w3 (w3.alloc o) := fun o => (Below.refl _ _).alloc (Nat.le_refl _) _
  refine (look_any _ C0 true 100 (-4) 20 120 13 _ (confC0 (HR3.out.below (hal _))) (by decide) (by decide) (by decide) (by decide) (by decide) (by decide) (by decide) (by decide) (by decide)).mono ?_
  rintro e w4 ⟨rfl, hk⟩
  have hb34 : Below w3.heap.size w3 w4 := (hal _).trans (hk.mono (by simp))
  have hb4 := hb3.trans (hb34.mono hb3.size)
  have HB4 := Lib.hid (HB3.out.below hb34)
  have HR4 := Lib.hid (HR3.out.below hb34)
  have HD4 := Lib.hid (HN4.out.below hk)
  clear hx hlt HB3 HR3 HN4 hk hal hb34 hb3
  generalize w3.heap.size = b4 at *
  have hx := HB4.out.cells
  have hlt := HB4.out.lt
  have hx4 := HD4.out.cells
  have hlt4 := HD4.out.lt
  simp only [f6, f7, f8]
  go_wp2_with fail
  have HN6 := Lib.hid (Blk.new w4 31 #[.bool true, .int .i64 120, .int .i64 (-5), .int .i64 10] w4.heap.size rfl)
  have hal : ∀ o, Below w4.heap.size w4 (w4.alloc o) := fun o => (Below.refl _ _).alloc (Nat.le_refl _) _
  refine (look_any _ C0 true 100 (-4) 20 120 99 _ (confC0 (HR4.out.below (hal _))) (by decide) (by decide) (by decide) (by decide) (by decide) (by decide) (by decide) (by decide) (by decide)).mono ?_
  rintro e w5 ⟨rfl, hk⟩
  have hb45 : Below w4.heap.size w4 w5 := (hal _).trans (hk.mono (by simp))
  have hb5 := hb4.trans (hb45.mono hb4.size)
  have HB5 := Lib.hid (HB4.out.below hb45)
  have HR5 := Lib.hid (HR4.out.below hb45)
  have HD5 := Lib.hid (HD4.out.below hb45)
  have HE5 := Lib.hid (HN6.out.below hk)
  clear hx hlt hx4 hlt4 HB4 HR4 HD4 HN6 hk hal hb45 hb4
  generalize w4.heap.size = b6 at *
  have hx := HB5.out.cells
  have hlt := HB5.out.lt
  have hx4 := HD5.out.cells
  have hlt4 := HD5.out.lt
  have hx6 := HE5.out.cells
  have hlt6 := HE5.out.lt
  simp only [f9]
  generalize lookLo C0 true 100 (-4) 20 120 99 = ll
  generalize lookHi C0 true 100 (-4) 20 120 99 = lh
  go_wp2_with fail
  have hal : ∀ o, Below w5.heap.size w5 (w5.alloc o) := fun o => (Below.refl _ _).alloc (Nat.le_refl _) _
  refine (atf_on _ C0 120 (-5) 10 130 _ (confC0 (HR5.out.below (hal _))) (by decide) (by decide) (by decide) (by decide) (by decide)).mono ?_
  rintro e w6 ⟨rfl, hk⟩
  have hb56 : Below w5.heap.size w5 w6 := (hal _).trans (hk.mono (by simp))
  have hb6 := hb5.trans (hb56.mono hb5.size)
  have HB6 := Lib.hid (HB5.out.below hb56)
  have HR6 := Lib.hid (HR5.out.below hb56)
  have HD6 := Lib.hid (HD5.out.below hb56)
  have HE6 := Lib.hid (HE5.out.below hb56)
  clear hx hlt hx4 hlt4 hx6 hlt6 HB5 HR5 HD5 HE5 hk hal hb56 hb5
  have hx := HB6.out.cells
  have hlt := HB6.out.lt
  have hx4 := HD6.out.cells
  have hlt4 := HD6.out.lt
  have hx6 := HE6.out.cells
  have hlt6 := HE6.out.lt
  simp only [f10, f11]
  go_wp2_with fail
  refine (atf_off _ C0 0 0 0 5 _ (confC0 HR6.out)).mono ?_
  rintro e w7 ⟨rfl, hk⟩
  have hb7 := hb6.trans (hk.mono hb6.size)
  have HB7 := Lib.hid (HB6.out.below hk)
  have HR7 := Lib.hid (HR6.out.below hk)
  have HD7 := Lib.hid (HD6.out.below hk)
  have HE7 := Lib.hid (HE6.out.below hk)
  clear hx hlt hx4 hlt4 hx6 hlt6 HB6 HR6 HD6 HE6 hk hb6
  have hx := HB7.out.cells
  have hlt := HB7.out.lt
  have hx4 := HD7.out.cells
  have hlt4 := HD7.out.lt
  have hx6 := HE7.out.cells
  have hlt6 := HE7.out.lt
  go_wp2_with fail
  go_goals
  refine (rightE_any _ _ _ _ _).mono ?_
  rintro e w8 ⟨rfl, hk⟩
  have hb8 := hb7.trans (hk.mono hb7.size)
  simp only [f12]
  go_wp2_with fail
  refine (rightE_any _ _ _ _ _).mono ?_
  rintro e w9 ⟨rfl, hk9⟩
  have hb9 := hb8.trans (hk9.mono hb8.size)
  simp only [f13]
  go_wp2
  go_ret
  exact ⟨by simp, hb9⟩
end Go.Proofs.Ytffpgocacdnfeaa
