/- Layer 3: the document's frames: the law. -/
import Derived.Test.YtkpdfapfcmlhhaaFrameQ
namespace Go.Proofs.Ytkpdfapfcmlhhaa
open Go.ChangeShapes Go.WideShapes Go.ChangeAt Go.RowKit
set_option linter.unusedVariables false
set_option linter.unusedSimpArgs false

set_option maxRecDepth 100000 in
set_option maxHeartbeats 8000000 in
theorem walk_FrameTells (va : Value) (za : List Int) (vb : Value) (zb : List Int) (w : World) (h0 : Ints .u8 w va za) (h1 : Ints .u8 w vb zb) :
    Calls Try.prog 3 #[va, vb] w fun e w' => e = .returned (.bool true) ∧ Below w.heap.size w w' := by
  have HA0 := Lib.hid h0.bytes
  have HB0 := Lib.hid h1.bytes
  obtain ⟨A, ca, rfl, hca, hcma, q1⟩ := h0.bytes.src
  obtain ⟨B, cb, rfl, hcb, hcmb, q2⟩ := h1.bytes.src
  clear h0 h1 q1 q2
  go_enter Try.func3, Try.ntmps3
  go_wp2_with fail
  refine (head_any _).mono ?_
  rintro e w1 ⟨rfl, hb1⟩
  by_cases ha : 600 < za.length
  · go_wp2
    go_ret
    exact ⟨rfl, hb1⟩
  by_cases hb : 1500 < zb.length
  · go_wp2
    go_ret
    exact ⟨rfl, hb1⟩
  have HA1 := Lib.hid (HA0.out.below hb1)
  by_cases hl : 255 < za.length
  · go_wp2_with fail
    refine (frame_no _ za _ HA1.out hl).mono ?_
    rintro e w2 ⟨rfl, rfl⟩
    go_wp2_with fail
    refine (rframe_no _ za _ HA1.out hl).mono ?_
    rintro e w2 ⟨rfl, rfl⟩
    have HX3 : Hid (Bytes w1 (.slice none 0 0) []) := Lib.hid Bytes.nil_
    have HY3 : Hid (Bytes w1 (.slice none 0 0) []) := Lib.hid Bytes.nil_
    have hb3 := hb1
    clear HA0 HA1
    have HB3 := Lib.hid (HB0.out.below hb3)
    go_wp2_with fail
    refine (split_own _ zb _ HB3.out (by omega)).mono ?_
    rintro e w4 ⟨vl, vr, rfl, hfr, hrb, hk⟩
    have HFR4 := Lib.hid hfr
    have HRB4 := Lib.hid hrb
    have HX4 := Lib.hid (HX3.out.below hk)
    have HY4 := Lib.hid (HY3.out.below hk)
    have HB4 := Lib.hid (HB3.out.below hk)
    have hb4 := Btrans hb3 hk
    clear hfr hrb hk hb3 HX3 HY3 HB3
    go_wp2_with fail
    refine (rsplit_any _ zb _ HB4.out (by omega)).mono ?_
    rintro e w5 ⟨vm, vs, rfl, hfr, hrb, hk⟩
    have HFR5 := Lib.hid (HFR4.out.below hk).rows
    have HRB5 := Lib.hid (HRB4.out.below hk).bytes
    have HGR5 := Lib.hid hfr.rows
    have HGB5 := Lib.hid hrb.bytes
    have HX5 := Lib.hid (HX4.out.below hk)
    have HY5 := Lib.hid (HY4.out.below hk)
    have hb5 := Btrans hb4 hk
    clear hfr hrb hk hb4 HFR4 HRB4 HX4 HY4 HB4
    go_wp2_with fail
    refine (same_any _ _ [] [] _ HX5.out HY5.out).mono ?_
    rintro e w6 ⟨rfl, rfl⟩
    go_wp2_with fail
    refine (sameall_any _ _ _ _ _ HFR5.out HGR5.out).mono ?_
    rintro e w6 ⟨rfl, hk⟩
    have HRB6 := Lib.hid (HRB5.out.below hk)
    have HGB6 := Lib.hid (HGB5.out.below hk)
    have hb6 := Btrans hb5 hk
    clear hk hb5
    go_wp2_with fail
    refine (same_any _ _ _ _ _ HRB6.out HGB6.out).mono ?_
    rintro e w7 ⟨rfl, rfl⟩
    go_wp2
    go_ret
    exact ⟨by first | rfl | simp, hb6⟩
  · go_wp2_with fail
    refine (frame_yes _ za _ HA1.out (by omega)).mono ?_
    rintro e w2 ⟨x, rfl, hx, hk⟩
    have HX2 := Lib.hid hx.bytes
    have HA2 := Lib.hid (HA1.out.below hk)
    have hb2 := Btrans hb1 hk
    clear hx hk HA1
    go_wp2_with fail
    refine (rframe_yes _ za _ HA2.out (by omega)).mono ?_
    rintro e w3 ⟨y, rfl, hy, hk⟩
    have HX3 := Lib.hid (HX2.out.below hk)
    have HY3 := Lib.hid hy.bytes
    have hb3 := Btrans hb2 hk
    clear hy hk HX2 HA2 hb2 HA0
    have HB3 := Lib.hid (HB0.out.below hb3)
    go_wp2_with fail
    refine (split_own _ zb _ HB3.out (by omega)).mono ?_
    rintro e w4 ⟨vl, vr, rfl, hfr, hrb, hk⟩
    have HFR4 := Lib.hid hfr
    have HRB4 := Lib.hid hrb
    have HX4 := Lib.hid (HX3.out.below hk)
    have HY4 := Lib.hid (HY3.out.below hk)
    have HB4 := Lib.hid (HB3.out.below hk)
    have hb4 := Btrans hb3 hk
    clear hfr hrb hk hb3 HX3 HY3 HB3
    go_wp2_with fail
    refine (rsplit_any _ zb _ HB4.out (by omega)).mono ?_
    rintro e w5 ⟨vm, vs, rfl, hfr, hrb, hk⟩
    have HFR5 := Lib.hid (HFR4.out.below hk).rows
    have HRB5 := Lib.hid (HRB4.out.below hk).bytes
    have HGR5 := Lib.hid hfr.rows
    have HGB5 := Lib.hid hrb.bytes
    have HX5 := Lib.hid (HX4.out.below hk)
    have HY5 := Lib.hid (HY4.out.below hk)
    have hb5 := Btrans hb4 hk
    clear hfr hrb hk hb4 HFR4 HRB4 HX4 HY4 HB4
    go_wp2_with fail
    refine (same_any _ _ (framed za) (framed za) _ HX5.out HY5.out).mono ?_
    rintro e w6 ⟨rfl, rfl⟩
    go_wp2_with fail
    refine (sameall_any _ _ _ _ _ HFR5.out HGR5.out).mono ?_
    rintro e w6 ⟨rfl, hk⟩
    have HRB6 := Lib.hid (HRB5.out.below hk)
    have HGB6 := Lib.hid (HGB5.out.below hk)
    have hb6 := Btrans hb5 hk
    clear hk hb5
    go_wp2_with fail
    refine (same_any _ _ _ _ _ HRB6.out HGB6.out).mono ?_
    rintro e w7 ⟨rfl, rfl⟩
    go_wp2
    go_ret
    exact ⟨by first | rfl | simp, hb6⟩
end Go.Proofs.Ytkpdfapfcmlhhaa
