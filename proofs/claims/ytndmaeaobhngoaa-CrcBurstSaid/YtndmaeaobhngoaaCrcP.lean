/- Layer 2: laws, walked. -/
import Derived.Test.YtndmaeaobhngoaaCrcH
import Derived.Test.YtndmaeaobhngoaaMemC
namespace Go.Proofs.Ytndmaeaobhngoaa
open Go.ChangeShapes Go.WideShapes Go.ChangeAt Go.RowKit
set_option linter.unusedVariables false
set_option linter.unusedSimpArgs false

theorem el8 : Elem Try.prog 22 5 1 1 := Elem.mk' (z := .int .u8 0) Try.underlying22 (by kernel_rfl) rfl (by decide)
theorem one_u8 (l : List Nat) : ∀ u ∈ l.map (fun x : Nat => Value.int .u8 (x : Int)), u.oneCell' = true := by
  intro u hu
  obtain ⟨x, _, rfl⟩ := List.mem_map.1 hu
  rfl
theorem more_sum (l m : List Nat) (hl : ∀ x ∈ l, x < 256) : more ((sumN 0 l : Nat) : Int) m = sumN 0 (l ++ m) := by
  unfold more low32
  have h := feed_lt 4294967295 l (by omega) hl
  have hs : sumN 0 l = 4294967295 - feed 4294967295 l := rfl
  have e : (((sumN 0 l : Nat) : Int) % 4294967296).toNat = sumN 0 l := by omega
  rw [e]
  exact sum_parts l m hl
theorem more_zero (l : List Nat) : more 0 l = sumN 0 l := rfl
theorem toN_len (zs : List Int) : (zs.map Int.toNat).length = zs.length := by simp

set_option maxRecDepth 100000 in
set_option maxHeartbeats 4000000 in
theorem walk_CrcParts (va : Value) (za : List Int) (vb : Value) (zb : List Int) (w : World) (h0 : Ints .u8 w va za) (h1 : Ints .u8 w vb zb) :
    Calls Try.prog 4 #[va, vb] w fun e w' => e = .returned (.bool true) ∧ Below w.heap.size w w' := by
  have hN := NB.of_ints h0
  have hM := NB.of_ints h1
  obtain ⟨A, c, rfl, hc, hcm, _⟩ := h0.1
  obtain ⟨B, d, rfl, hd, hdm, _⟩ := h1.1
  rw [List.length_map] at hc hd hN hM ⊢
  rw [List.length_map]
  unfold maxLen at hcm hdm
  have HN := Lib.hid hN
  have HM := Lib.hid hM
  have la := toN_len za
  have lb := toN_len zb
  clear hN hM h0 h1
  generalize za.map Int.toNat = l at *
  generalize zb.map Int.toNat = m at *
  have LA := Lib.hid la
  have LB := Lib.hid lb
  clear la lb
  go_enter Try.func4, Try.ntmps4
  go_wp2_with fail
  refine (head_any _).mono ?_
  rintro e w1 ⟨rfl, hb1⟩
  by_cases hbl : 1000 < za.length
  · go_wp2
    go_ret
    exact ⟨rfl, hb1⟩
  by_cases hbm : 1000 < zb.length
  · go_wp2
    go_ret
    exact ⟨rfl, hb1⟩
  have HN1 := Lib.hid (HN.out.below hb1)
  have HM1 := Lib.hid (HM.out.below hb1)
  clear HN HM
  go_wp2_with fail
  refine (sum_any _ l _ HN1.out).mono ?_
  rintro e w2 ⟨rfl, hk⟩
  have hb2 := hb1.trans (hk.mono hb1.size)
  have HN2 := Lib.hid (HN1.out.below hk)
  have HM2 := Lib.hid (HM1.out.below hk)
  clear hk hb1 HN1 HM1
  go_wp2_with fail
  refine (more_any _ _ m _ HM2.out).mono ?_
  rintro e w3 ⟨rfl, hk⟩
  rw [more_sum l m HN2.out.2]
  have hb3 := hb2.trans (hk.mono hb2.size)
  have HN3 := Lib.hid (HN2.out.below hk)
  have HM3 := Lib.hid (HM2.out.below hk)
  clear hk hb2 HN2 HM2
  go_wp2_with (at_builtin; refine wpList_appG el8 (.tmp 22) (.tmp 23) rfl w3.heap.size _ 0 [] rfl (own_empty _ _ _ _ (Nat.le_refl _) rfl) _ (l.map fun x : Nat => .int .u8 (x : Int)) rfl ((HN3.out.below ((Below.refl _ _).alloc (Nat.le_refl _) _)).1) (one_u8 _) ?_ ?_ ?_ ?_ ?_)
  case refine_2 => rw [List.length_map, LA.out]; unfold maxLen; omega
  case refine_3 => rw [List.length_map, LA.out]; omega
  case refine_4 => simp
  intro va1 wa owna hga _
  have hba : Below w3.heap.size w3 wa := ((Below.refl _ _).alloc (Nat.le_refl _) _).grown hga (by simp) (by simp [Value.ownBlock])
  have ownb : wa.ownsRow w3.heap.size 5 1 va1 l.length (l.map fun x : Nat => .int .u8 (x : Int)) := by simpa using owna
  clear owna hga
  go_wp2_with (at_builtin; refine wpList_appG el8 (.tmp 24) (.tmp 25) rfl w3.heap.size _ _ _ rfl ownb _ (m.map fun x : Nat => .int .u8 (x : Int)) rfl (HM3.out.below hba).1 (one_u8 _) ?_ ?_ ?_ ?_ ?_)
  case refine_2 => rw [List.length_map, LA.out, LB.out]; unfold maxLen; omega
  case refine_3 => rw [List.length_map, LA.out, LB.out]; omega
  case refine_4 => exact hba.size
  intro vb1 wb ownc hgb _
  have hbb : Below w3.heap.size w3 wb := below_app hba hba.size ownb hgb (Nat.le_refl _)
  have hb4 := hb3.trans (hbb.mono hb3.size)
  have HC := Lib.hid (show NB wb vb1 (l ++ m) from ⟨by rw [List.map_append]; exact Row.of_own ownc, fun x hx => by
    rcases List.mem_append.1 hx with h | h
    · exact HN3.out.2 x h
    · exact HM3.out.2 x h⟩)
  have HN4 := Lib.hid (HN3.out.below hbb)
  clear ownc hgb ownb hba hbb hb3 HN3 HM3
  go_wp2_with fail
  refine (sum_any _ (l ++ m) _ HC.out).mono ?_
  rintro e w5 ⟨rfl, hk⟩
  have hb5 := hb4.trans (hk.mono hb4.size)
  have HN5 := Lib.hid (HN4.out.below hk)
  clear hk hb4 HN4 HC
  go_wp2_with fail
  refine (sum_any _ l _ HN5.out).mono ?_
  rintro e w6 ⟨rfl, hk⟩
  have hb6 := hb5.trans (hk.mono hb5.size)
  have HN6 := Lib.hid (HN5.out.below hk)
  clear hk hb5 HN5
  go_wp2_with fail
  refine (more_any _ _ [] _ ⟨Row.nil_, by simp⟩).mono ?_
  rintro e w7 ⟨rfl, hk⟩
  rw [more_sum l [] HN6.out.2, List.append_nil]
  have hb7 := hb6.trans (hk.mono hb6.size)
  have HN7 := Lib.hid (HN6.out.below hk)
  clear hk hb6 HN6
  go_wp2_with fail
  refine (sum_any _ l _ HN7.out).mono ?_
  rintro e w8 ⟨rfl, hk⟩
  have hb8 := hb7.trans (hk.mono hb7.size)
  have HN8 := Lib.hid (HN7.out.below hk)
  clear hk hb7 HN7
  go_wp2_with fail
  refine (more_any _ _ l _ HN8.out).mono ?_
  rintro e w9 ⟨rfl, hk⟩
  rw [more_zero]
  have hb9 := hb8.trans (hk.mono hb8.size)
  have HN9 := Lib.hid (HN8.out.below hk)
  clear hk hb8 HN8
  go_wp2_with fail
  refine (sum_any _ l _ HN9.out).mono ?_
  rintro e w10 ⟨rfl, hk⟩
  have hb10 := hb9.trans (hk.mono hb9.size)
  go_wp2
  go_ret
  exact ⟨by simp, hb10⟩
end Go.Proofs.Ytndmaeaobhngoaa
