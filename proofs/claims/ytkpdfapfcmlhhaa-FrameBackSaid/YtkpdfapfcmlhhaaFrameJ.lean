/- Layer 3: there and back. -/
import Derived.Test.YtkpdfapfcmlhhaaFrameI
namespace Go.Proofs.Ytkpdfapfcmlhhaa
open Go.ChangeShapes Go.WideShapes Go.ChangeAt Go.RowKit
set_option linter.unusedVariables false
set_option linter.unusedSimpArgs false

set_option maxRecDepth 100000 in
set_option maxHeartbeats 8000000 in
theorem walk_FrameBack (va : Value) (za : List Int) (vb : Value) (zb : List Int) (vc : Value) (zc : List Int) (w : World) (h0 : Ints .u8 w va za) (h1 : Ints .u8 w vb zb) (h2 : Ints .u8 w vc zc) :
    Calls Try.prog 4 #[va, vb, vc] w fun e w' => e = .returned (.bool true) ∧ Below w.heap.size w w' := by
  have HA0 := Lib.hid h0.bytes
  have HB0 := Lib.hid h1.bytes
  have HC0 := Lib.hid h2.bytes
  obtain ⟨A, ca, rfl, hca, hcma, q1⟩ := h0.bytes.src
  obtain ⟨B, cb, rfl, hcb, hcmb, q2⟩ := h1.bytes.src
  obtain ⟨C, cc, rfl, hcc, hcmc, q3⟩ := h2.bytes.src
  clear h0 h1 h2 q1 q2 q3
  go_enter Try.func4, Try.ntmps4
  go_wp2_with fail
  refine (head_any _).mono ?_
  rintro e w1 ⟨rfl, hb1⟩
  by_cases ha : 255 < za.length
  · go_wp2
    go_ret
    exact ⟨rfl, hb1⟩
  by_cases hb : 255 < zb.length
  · go_wp2
    go_ret
    exact ⟨rfl, hb1⟩
  by_cases hc : 255 < zc.length
  · go_wp2
    go_ret
    exact ⟨rfl, hb1⟩
  have HA1 := Lib.hid (HA0.out.below hb1)
  have HB1 := Lib.hid (HB0.out.below hb1)
  have HC1 := Lib.hid (HC0.out.below hb1)
  clear HA0 HB0 HC0
  go_wp2_with fail
  refine (frame_yes _ za _ HA1.out (by omega)).mono ?_
  rintro e w2 ⟨xa, rfl, hx, hk⟩
  have HXa2 := Lib.hid hx
  obtain ⟨ba, cax, csa, rfl, q1, q2, q3, q4⟩ := hx.some_ (by rw [framed_len]; omega)
  rw [framed_len] at HXa2 ⊢
  have HA2 := Lib.hid (HA1.out.below hk)
  have HB2 := Lib.hid (HB1.out.below hk)
  have HC2 := Lib.hid (HC1.out.below hk)
  have hb2 := Btrans hb1 hk
  clear q1 q2 q3 q4 hx hk hb1 HA1 HB1 HC1
  go_wp2_with fail
  refine (frame_yes _ zb _ HB2.out (by omega)).mono ?_
  rintro e w3 ⟨xb, rfl, hx, hk⟩
  have HXb3 := Lib.hid hx
  obtain ⟨bb, cbx, csb, rfl, q1, q2, q3, q4⟩ := hx.some_ (by rw [framed_len]; omega)
  rw [framed_len] at HXb3 ⊢
  have HA3 := Lib.hid (HA2.out.below hk)
  have HB3 := Lib.hid (HB2.out.below hk)
  have HC3 := Lib.hid (HC2.out.below hk)
  have HXa3 := Lib.hid (HXa2.out.below hk)
  have hb3 := Btrans hb2 hk
  clear q1 q2 q3 q4 hx hk hb2 HA2 HB2 HC2 HXa2
  go_wp2_with fail
  refine (frame_yes _ zc _ HC3.out (by omega)).mono ?_
  rintro e w4 ⟨xc, rfl, hx, hk⟩
  have HXc4 := Lib.hid hx
  obtain ⟨bc, ccx, csc, rfl, q1, q2, q3, q4⟩ := hx.some_ (by rw [framed_len]; omega)
  rw [framed_len] at HXc4 ⊢
  have HA4 := Lib.hid (HA3.out.below hk)
  have HB4 := Lib.hid (HB3.out.below hk)
  have HC4 := Lib.hid (HC3.out.below hk)
  have HXa4 := Lib.hid (HXa3.out.below hk)
  have HXb4 := Lib.hid (HXb3.out.below hk)
  have hb4 := Btrans hb3 hk
  clear q1 q2 q3 q4 hx hk hb3 HA3 HB3 HC3 HXa3 HXb3
  go_wp2_with (at_builtin; refine wpList_apO rfl (.tmp 66) (.tmp 67) rfl w4.heap.size _ [] rfl (ownB_empty _ _ _ (Nat.le_refl _) rfl) _ (framed za) rfl ((HXa4.out.bytes).below (by go_grown)) (framed za) (by simp) (by simp [framed_len]; try omega) (by simp) w4 w4.heap.size (Nat.le_refl _) (by go_grown) ?_)
  intro v5 w5 hO5 hq5
  go_wp2_with (at_builtin; refine wpList_apO rfl (.tmp 68) (.tmp 69) rfl w4.heap.size _ (framed za) rfl hO5.out _ (framed zb) rfl ((HXb4.out.bytes).below hq5) (framed za ++ framed zb) (by simp) (by simp [framed_len]; try omega) hq5.size w4 w4.heap.size (Nat.le_refl _) hq5 ?_)
  intro v6 w6 hO6 hq6
  go_wp2_with (at_builtin; refine wpList_apO rfl (.tmp 70) (.tmp 71) rfl w4.heap.size _ (framed za ++ framed zb) rfl hO6.out _ (framed zc) rfl ((HXc4.out.bytes).below hq6) (framed za ++ (framed zb ++ framed zc)) (by simp) (by simp [framed_len]; try omega) hq6.size w4 w4.heap.size (Nat.le_refl _) hq6 ?_)
  intro v7 w7 hO7 hq7
  have hu : U8s (framed za ++ (framed zb ++ framed zc)) := U8s.app (framed_range HA4.out.2 (by omega)) (U8s.app (framed_range HB4.out.2 (by omega)) (framed_range HC4.out.2 (by omega)))
  have hsp : split (framed za ++ (framed zb ++ framed zc)) = ⟨[za, zb, zc], [], 0⟩ := by
    rw [split_framed _ _ HA4.out.2 (by omega), split_framed _ _ HB4.out.2 (by omega), ← List.append_nil (framed zc), split_framed _ _ HC4.out.2 (by omega), split_nil]
    simp [Sp.put]
  have HU := Lib.hid hu
  have HSP := Lib.hid hsp
  have HA7 := Lib.hid (HA4.out.below hq7)
  have HB7 := Lib.hid (HB4.out.below hq7)
  have HC7 := Lib.hid (HC4.out.below hq7)
  have hb7 := Btrans hb4 hq7
  clear hu hsp hO5 hO6 hq5 hq6 hq7 HXa4 HXb4 HXc4 HA4 HB4 HC4
  go_wp2_with fail
  refine (split_any _ _ _ (hO7.out.own HU.out).bytes (by simp [framed_len]; omega)).mono ?_
  rw [HSP.out]
  rintro e w8 ⟨vf, vr, rfl, hfr, hrb, hk⟩
  have HFR := Lib.hid hfr.rows
  obtain ⟨Rr, cr, rfl, hcr, hcmr, q4⟩ := hrb.src
  have HA8 := Lib.hid (HA7.out.below hk)
  have HB8 := Lib.hid (HB7.out.below hk)
  have HC8 := Lib.hid (HC7.out.below hk)
  have hb8 := Btrans hb7 hk
  clear hfr hrb q4 hk hb7 hO7 HA7 HB7 HC7
  go_wp2_with fail
  refine (sameall_any _ _ [za, zb, zc] [za, zb, zc] _ (HFR.out.below (by go_grown)) (rowsLit (us := [.slice A za.length ca, .slice B zb.length cb, .slice C zc.length cc]) (heap_at _ _ _ rfl) rfl (show (3 : Nat) ≤ maxLen by decide) rfl (fun i f hi => by
    match i, hi with
    | 0, hi => simp at hi; subst hi; exact ⟨_, rfl, HA8.out.below (by go_grown)⟩
    | 1, hi => simp at hi; subst hi; exact ⟨_, rfl, HB8.out.below (by go_grown)⟩
    | 2, hi => simp at hi; subst hi; exact ⟨_, rfl, HC8.out.below (by go_grown)⟩
    | i + 3, hi => simp at hi))).mono ?_
  rintro e w9 ⟨rfl, hk⟩
  have hz8 := hb8.size
  have hb9 : Below w.heap.size w w9 := (show Below w.heap.size w _ by go_grown).trans (hk.mono (by simp; omega))
  go_wp2
  go_ret
  exact ⟨by first | rfl | simp, hb9⟩
end Go.Proofs.Ytkpdfapfcmlhhaa
