/- Layer 14: the law BatchTells under its head. -/
import Derived.Test.YtgklbmhihfmagaaBatchX
import Derived.Test.YtgklbmhihfmagaaBatchU
import Derived.Test.YtgklbmhihfmagaaBatchH
import Derived.Test.YtgklbmhihfmagaaBatchW
import Derived.Handy
namespace Go.Proofs.Ytgklbmhihfmagaa
open Go.ChangeShapes Go.WideShapes Go.ChangeAt Go.RowKit Go.Deep
set_option linter.unusedVariables false
set_option linter.unusedSimpArgs false

def Hd : Prop := ∀ w : World, Calls Try.prog 9 #[] w fun e w' => e = .returned (.bool true) ∧ Below w.heap.size w w'
set_option maxRecDepth 100000 in
set_option maxHeartbeats 8000000 in
theorem walkH_BatchTells (hd : Hd) (vt : Value) (ts : List TV) (vl : Value) (l : List PV) (w : World) (h0 : TRow w vt ts) (h1 : PRow w vl l) :
    Calls Try.prog 3 #[vt, vl] w fun e w' => e = .returned (.bool true) ∧ Below w.heap.size w w' := by
  have H0' := Lib.hid h0
  have H1' := Lib.hid h1
  clear h0 h1
  go_enter Try.func3, Try.ntmps3
  go_wp2_with fail
  go_at_call 9
  refine (hd _).mono ?_
  rintro e w1 ⟨rfl, hk1⟩
  have H0 := Lib.hid (H0'.out.below hk1)
  have H1 := Lib.hid (H1'.out.below hk1)
  have HB1 := Lib.hid hk1
  clear hk1 H0' H1'
  go_wp2_with fail
  go_at_call 10
  refine (good_any vt vl ts l _ H0.out H1.out).mono ?_
  rintro e V1 ⟨b, hb, rfl, hk1⟩
  have HGD := Lib.hid hb
  have H2 := Lib.hid (H0.out.below hk1)
  have H3 := Lib.hid (H1.out.below hk1)
  have HB2 := Lib.hid (Btrans HB1.out hk1)
  clear hb hk1 H0 H1 HB1
  cases b
  · go_wp2
    go_ret
    exact ⟨by simp, HB2.out⟩
  · have HG := Lib.hid (HGD.out rfl)
    clear HGD
    go_wp2_with fail
    go_at_call 12
    refine (order_any vt vl ts l _ H2.out H3.out HG.out.2.2.2 HG.out.2.2.1 (by have := HG.out.2.1; omega)).mono ?_
    rintro e V2 ⟨va, La, rfl, hP, hL, hk⟩
    have HPa := Lib.hid hP
    have HLa := Lib.hid hL.1
    have H4 := Lib.hid (H2.out.below hk)
    have H5 := Lib.hid (H3.out.below hk)
    have HB3 := Lib.hid (Btrans HB2.out hk)
    clear hP hL hk H2 H3 HB2
    go_wp2_with fail
    go_at_call 13
    refine (rorder_any vt vl ts l _ H4.out H5.out HG.out.2.2.2 HG.out.2.2.1 (by have := HG.out.2.1; omega)).mono ?_
    rintro e V3 ⟨vb, Lb, rfl, hP, hL, hk⟩
    have HPa2 := Lib.hid (HPa.out.below hk)
    have HPb := Lib.hid hP
    have HLb := Lib.hid hL.1
    have HB4 := Lib.hid (Btrans HB3.out hk)
    clear hP hL HPa hk H4 H5 HB3
    go_wp2_with fail
    go_at_call 11
    refine (sameAll_any va vb La Lb _ HPa2.out HPb.out).mono ?_
    rintro e V4 ⟨rfl, hk⟩
    rw [show decide (La.map PV.p = Lb.map PV.p) = true from by rw [HLa.out, HLb.out]; exact decide_eq_true rfl]
    have HB5 := Lib.hid (Btrans HB4.out hk)
    clear hk
    go_wp2
    go_ret
    exact ⟨by simp, HB5.out⟩
end Go.Proofs.Ytgklbmhihfmagaa
