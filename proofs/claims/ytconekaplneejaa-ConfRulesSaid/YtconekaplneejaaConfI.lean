/- Layer 5: the live question. -/
import Derived.Test.YtconekaplneejaaConfH
namespace Go.Proofs.Ytconekaplneejaa
open Go.ChangeShapes Go.WideShapes Go.ChangeAt Go.RowKit
set_option linter.unusedVariables false
set_option linter.unusedSimpArgs false

def baseC : Cf := ⟨10, 3, 8, 0, 15, 100, 40, 16, 2, [[10, 5], [20]]⟩
def zeroC : Cf := ⟨0, 0, 0, 0, 0, 0, 0, 0, 0, []⟩
theorem base_c (w : World) : Calls Try.prog 19 #[] w fun e w' => ∃ v, e = .returned v ∧ IsConf w' v baseC ∧ Below w.heap.size w w' := base_any w
theorem zero_c (w : World) : IsConf w (.agg #[.int .i64 0, .int .i64 0, .int .i64 0, .int .i64 0, .int .i64 0, .int .i64 0, .int .i64 0, .int .i64 0, .int .i64 0, .slice none 0 0, .slice none 0 0]) zeroC :=
  ⟨_, _, rfl, [], Row.nil_, rfl, by simp [zeroC]⟩
theorem of2 (v : Value) (w : World) (h : IsConf w v baseC) : Calls Try.prog 11 #[v, .int .i64 2] w fun e w' => e = .returned (.tuple #[.int .i64 1, .int .i64 0, .bool true]) ∧ Below w.heap.size w w' :=
  (of_any v baseC 2 w h (by decide)).mono fun e w' ⟨he, hb⟩ => ⟨by rw [he, show ofX (chansOf baseC.rows) 2 = (1, 0) by decide, show ofO (chansOf baseC.rows) 2 = true by decide]; rfl, hb⟩
theorem of3 (v : Value) (w : World) (h : IsConf w v baseC) : Calls Try.prog 11 #[v, .int .i64 3] w fun e w' => e = .returned (.tuple #[.int .i64 0, .int .i64 0, .bool false]) ∧ Below w.heap.size w w' :=
  (of_any v baseC 3 w h (by decide)).mono fun e w' ⟨he, hb⟩ => ⟨by rw [he, show ofX (chansOf baseC.rows) 3 = (0, 0) by decide, show ofO (chansOf baseC.rows) 3 = false by decide]; rfl, hb⟩
theorem right1 (v : Value) (w : World) (h : IsConf w v baseC) : Calls Try.prog 13 #[v] w fun e w' => e = .returned (.bool true) ∧ Below w.heap.size w w' :=
  (right_any v baseC w h).mono fun e w' ⟨he, hb⟩ => ⟨by rw [he, show confO baseC = true by decide], hb⟩
theorem right0 (v : Value) (w : World) (h : IsConf w v zeroC) : Calls Try.prog 13 #[v] w fun e w' => e = .returned (.bool false) ∧ Below w.heap.size w w' :=
  (right_any v zeroC w h).mono fun e w' ⟨he, hb⟩ => ⟨by rw [he, show confO zeroC = false by decide], hb⟩
theorem many3 (v : Value) (w : World) (h : IsConf w v baseC) : Calls Try.prog 15 #[v] w fun e w' => e = .returned (.int .i64 3) ∧ Below w.heap.size w w' :=
  (many_any v baseC w h (by decide)).mono fun e w' ⟨he, hb⟩ => ⟨by rw [he, show (chansOf baseC.rows).length = 3 by decide]; rfl, hb⟩
theorem num01 (v : Value) (w : World) (h : IsConf w v baseC) : Calls Try.prog 17 #[v, .int .i64 0, .int .i64 1] w fun e w' => e = .returned (.int .i64 1) ∧ Below w.heap.size w w' :=
  (number_any v baseC 0 1 w h (by decide)).mono fun e w' ⟨he, hb⟩ => ⟨by rw [he, show numI (chansOf baseC.rows) 0 1 = 1 by decide], hb⟩
theorem num11 (v : Value) (w : World) (h : IsConf w v baseC) : Calls Try.prog 17 #[v, .int .i64 1, .int .i64 1] w fun e w' => e = .returned (.int .i64 (-1)) ∧ Below w.heap.size w w' :=
  (number_any v baseC 1 1 w h (by decide)).mono fun e w' ⟨he, hb⟩ => ⟨by rw [he, show numI (chansOf baseC.rows) 1 1 = -1 by decide], hb⟩

set_option maxRecDepth 100000 in
set_option maxHeartbeats 4000000 in
theorem head_any (w : World) :
    Calls Try.prog 9 #[] w fun e w' => e = .returned (.bool true) ∧ Below w.heap.size w w' := by
  go_enter Try.func9, Try.ntmps9
  go_wp2_with fail
  refine (base_c _).mono ?_
  rintro e w1 ⟨v1, rfl, hv1, hk⟩
  have HV1 := Lib.hid hv1
  have hb1 : Below w.heap.size w w1 := Btrans (Below.refl _ _) hk
  clear hk hv1
  go_wp2_with fail
  refine (of2 _ _ HV1.out).mono ?_
  rintro e w2 ⟨rfl, hk⟩
  have hb2 : Below w.heap.size w w2 := Btrans hb1 hk
  clear hk
  go_wp2_with fail
  refine (base_c _).mono ?_
  rintro e w3 ⟨v3, rfl, hv3, hk⟩
  have HV3 := Lib.hid hv3
  have hb3 : Below w.heap.size w w3 := Btrans hb2 hk
  clear hk hv3
  go_wp2_with fail
  refine (of3 _ _ HV3.out).mono ?_
  rintro e w4 ⟨rfl, hk⟩
  have hb4 : Below w.heap.size w w4 := Btrans hb3 hk
  clear hk
  go_wp2_with fail
  refine (base_c _).mono ?_
  rintro e w5 ⟨v5, rfl, hv5, hk⟩
  have HV5 := Lib.hid hv5
  have hb5 : Below w.heap.size w w5 := Btrans hb4 hk
  clear hk hv5
  go_wp2_with fail
  refine (right1 _ _ HV5.out).mono ?_
  rintro e w6 ⟨rfl, hk⟩
  have hb6 : Below w.heap.size w w6 := Btrans hb5 hk
  clear hk
  go_wp2_with fail
  refine (right0 _ _ (zero_c _)).mono ?_
  rintro e w7 ⟨rfl, hk⟩
  have hb7 : Below w.heap.size w w7 := Btrans hb6 hk
  clear hk
  go_wp2_with fail
  refine (base_c _).mono ?_
  rintro e w8 ⟨v8, rfl, hv8, hk⟩
  have HV8 := Lib.hid hv8
  have hb8 : Below w.heap.size w w8 := Btrans hb7 hk
  clear hk hv8
  go_wp2_with fail
  refine (many3 _ _ HV8.out).mono ?_
  rintro e w9 ⟨rfl, hk⟩
  have hb9 : Below w.heap.size w w9 := Btrans hb8 hk
  clear hk
  go_wp2_with fail
  refine (base_c _).mono ?_
  rintro e w10 ⟨v10, rfl, hv10, hk⟩
  have HV10 := Lib.hid hv10
  have hb10 : Below w.heap.size w w10 := Btrans hb9 hk
  clear hk hv10
  go_wp2_with fail
  refine (num01 _ _ HV10.out).mono ?_
  rintro e w11 ⟨rfl, hk⟩
  have hb11 : Below w.heap.size w w11 := Btrans hb10 hk
  clear hk
  go_wp2_with fail
  refine (base_c _).mono ?_
  rintro e w12 ⟨v12, rfl, hv12, hk⟩
  have HV12 := Lib.hid hv12
  have hb12 : Below w.heap.size w w12 := Btrans hb11 hk
  clear hk hv12
  go_wp2_with fail
  refine (num11 _ _ HV12.out).mono ?_
  rintro e w13 ⟨rfl, hk⟩
  have hb13 : Below w.heap.size w w13 := Btrans hb12 hk
  clear hk
  go_wp2
  go_ret
  exact ⟨by first | rfl | simp, hb13⟩
end Go.Proofs.Ytconekaplneejaa
