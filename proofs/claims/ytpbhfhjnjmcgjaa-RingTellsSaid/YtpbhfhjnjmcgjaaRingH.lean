/- Layer 12: the live question. -/
import Derived.Test.YtpbhfhjnjmcgjaaRingG
namespace Go.Proofs.Ytpbhfhjnjmcgjaa
open Go.ChangeShapes Go.WideShapes Go.ChangeAt Go.RowKit
set_option linter.unusedVariables false
set_option linter.unusedSimpArgs false

set_option maxRecDepth 100000 in
set_option maxHeartbeats 1000000 in
theorem head_any (w : World) :
    Calls Try.prog 9 #[] w fun e w' => e = .returned (.bool true) ∧ Below w.heap.size w w' := by
  have n1 := newI_any 2 5
  have n2 := newS_any 1 0
  simp only [Int.cast_ofNat_Int] at n1 n2
  go_enter Try.func9, Try.ntmps9
  go_wp2_with fail
  refine (n1 _ (by omega) (by omega)).mono ?_
  rintro e W1 ⟨rb, gb, rfl, hR, hk, l1, l2⟩
  have hb1 := hk
  clear hk
  have R1 := Lib.hid (show RingI W1 rb gb 5 2 [(0, false), (0, false)] from hR)
  clear hR
  clear n1
  go_wp2_with fail
  refine (putI_any rb gb 5 2 7 1 [(0, false), (0, false)] _ R1.out (by omega)).mono ?_
  rintro e W2 ⟨rfl, hR, hO⟩
  rw [show putC 5 2 ([(0, false), (0, false)] : List (Int × Bool)) 7 = 7 from by decide]
  rw [show putQ 5 2 ([(0, false), (0, false)] : List (Int × Bool)) 7 1 = [(0, false), (0, false)] from by decide] at hR
  have hb2 := Only.below hb1 hb1.size hO (by simp; omega)
  have R2 := Lib.hid (show RingI W2 rb gb 5 2 [(0, false), (0, false)] from hR)
  clear hR hO R1 hb1
  go_wp2_with fail
  refine (putI_any rb gb 5 2 4 1 [(0, false), (0, false)] _ R2.out (by omega)).mono ?_
  rintro e W3 ⟨rfl, hR, hO⟩
  rw [show putC 5 2 ([(0, false), (0, false)] : List (Int × Bool)) 4 = 6 from by decide]
  rw [show putQ 5 2 ([(0, false), (0, false)] : List (Int × Bool)) 4 1 = [(0, false), (0, false)] from by decide] at hR
  have hb3 := Only.below hb2 hb2.size hO (by simp; omega)
  have R3 := Lib.hid (show RingI W3 rb gb 5 2 [(0, false), (0, false)] from hR)
  clear hR hO R2 hb2
  go_wp2_with fail
  refine (putI_any rb gb 5 2 6 9 [(0, false), (0, false)] _ R3.out (by omega)).mono ?_
  rintro e W4 ⟨rfl, hR, hO⟩
  rw [show putC 5 2 ([(0, false), (0, false)] : List (Int × Bool)) 6 = 9 from by decide]
  rw [show putQ 5 2 ([(0, false), (0, false)] : List (Int × Bool)) 6 9 = [(0, false), (9, true)] from by decide] at hR
  have hb4 := Only.below hb3 hb3.size hO (by simp; omega)
  have R4 := Lib.hid (show RingI W4 rb gb 5 2 [(0, false), (9, true)] from hR)
  clear hR hO R3 hb3
  go_wp2_with fail
  refine (putI_any rb gb 5 2 6 8 [(0, false), (9, true)] _ R4.out (by omega)).mono ?_
  rintro e W5 ⟨rfl, hR, hO⟩
  rw [show putC 5 2 ([(0, false), (9, true)] : List (Int × Bool)) 6 = 8 from by decide]
  rw [show putQ 5 2 ([(0, false), (9, true)] : List (Int × Bool)) 6 8 = [(0, false), (9, true)] from by decide] at hR
  have hb5 := Only.below hb4 hb4.size hO (by simp; omega)
  have R5 := Lib.hid (show RingI W5 rb gb 5 2 [(0, false), (9, true)] from hR)
  clear hR hO R4 hb4
  go_wp2_with fail
  refine (takeI_any rb gb 5 2 [(0, false), (9, true)] _ R5.out (by omega) (0, false) [(9, true)] rfl).mono ?_
  rintro e W6 ⟨rfl, hR, hO⟩
  have hb6 := Only.below hb5 hb5.size hO (by simp; omega)
  have R6 := Lib.hid (show RingI W6 rb gb 6 2 [(9, true), (0, false)] from hR)
  clear hR hO R5 hb5
  go_wp2_with fail
  refine (takeI_any rb gb 6 2 [(9, true), (0, false)] _ R6.out (by omega) (9, true) [(0, false)] rfl).mono ?_
  rintro e W7 ⟨rfl, hR, hO⟩
  have hb7 := Only.below hb6 hb6.size hO (by simp; omega)
  have R7 := Lib.hid (show RingI W7 rb gb 7 2 [(0, false), (0, false)] from hR)
  clear hR hO R6 hb6
  go_wp2_with fail
  refine (n2 _ (by omega) (by omega)).mono ?_
  rintro e W8 ⟨sb, tb, rfl, hR, hk, m1, m2⟩
  have lr := R7.out.head.lt
  have lg : gb < W7.heap.size := R7.out.rest.elim fun _ hh => hh.1.lt
  have hz := hb7.size
  have hb8 := hb7.trans (hk.mono hb7.size)
  have R8 := Lib.hid (R7.out.below hk)
  clear hk R7 hb7
  have Q8 := Lib.hid (show RingS W8 sb tb 0 1 [(ByteArray.empty, false)] from hR)
  clear hR
  clear n2
  go_wp2_with fail
  refine (putS_any sb tb 0 1 0 ⟨#[120]⟩ [(ByteArray.empty, false)] _ Q8.out (by omega)).mono ?_
  rintro e W9 ⟨rfl, hR, hO⟩
  rw [show putQ 0 1 ([(ByteArray.empty, false)] : List (ByteArray × Bool)) 0 ⟨#[120]⟩ = [(⟨#[120]⟩, true)] from rfl] at hR
  have hb9 := Only.below hb8 hb8.size hO (by simp; omega)
  have Q9 := Lib.hid (show RingS W9 sb tb 0 1 [(⟨#[120]⟩, true)] from hR)
  have R9 := Lib.hid (R8.out.only hO (by simp; omega) (by simp; omega))
  clear hR hO R8 Q8 hb8
  go_wp2_with fail
  refine (takeS_any sb tb 0 1 [(⟨#[120]⟩, true)] _ Q9.out (by omega) (⟨#[120]⟩, true) [] rfl).mono ?_
  rintro e W10 ⟨rfl, hR, hO⟩
  have hb10 := Only.below hb9 hb9.size hO (by simp; omega)
  have Q10 := Lib.hid (show RingS W10 sb tb 1 1 [(ByteArray.empty, false)] from hR)
  have R10 := Lib.hid (R9.out.only hO (by simp; omega) (by simp; omega))
  clear hR hO R9 Q9 hb9
  go_wp2_with fail
  refine (fromI_any rb gb 7 2 _ _ R10.out).mono ?_
  rintro e w1 ⟨rfl, rfl⟩
  go_wp2
  go_ret
  exact ⟨by first | rfl | simp, hb10⟩
end Go.Proofs.Ytpbhfhjnjmcgjaa
