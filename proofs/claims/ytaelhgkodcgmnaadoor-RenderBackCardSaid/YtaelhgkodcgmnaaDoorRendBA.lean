/- Layer 23: the law RenderBack. -/
import Derived.Test.YtaelhgkodcgmnaaDoorRendAM
import Derived.Handy
import Derived.IntWalk
namespace Go.Proofs.YtaelhgkodcgmnaaDoor
open Go.ChangeShapes Go.WideShapes Go.ChangeAt Go.RowKit Go.Deep
open Go.Shelf
set_option linter.unusedVariables false
set_option linter.unusedSimpArgs false

set_option maxRecDepth 100000 in
set_option maxHeartbeats 8000000 in
theorem walk_RenderBack (v : Value) (t : Td) (w : World) (hE : Env w) (h0 : ToldV w v t ∧ td64 t) :
    Calls Tryd.prog 4 #[v] w fun e w' => e = .returned (.bool true) ∧ Below w.heap.size w w' := by
  obtain ⟨hT, h6⟩ := h0
  obtain ⟨CA, cc, RA, rc, HA_, hc, rfl⟩ := hT.shape
  have HT := Lib.hid hT
  have HE := Lib.hid hE
  have H6 := Lib.hid h6
  clear hT hE h6
  go_enter Tryd.func4, Tryd.ntmps4
  go_wp2_with fail
  go_at_call 9
  refine calls_world (fun W => Below w.heap.size w W ∧ Blk W w.heap.size 25 #[.int .i64 t.tick, .slice CA t.cells.length cc, .slice RA t.rules.length rc, .slice HA_ t.chans.length hc]) ⟨by go_grown, Blk.new _ _ _ _ rfl⟩ fun W0 ⟨hb, hq⟩ => ?_
  refine (head_any _ (HE.out.below hb)).mono ?_
  rintro e W1 ⟨rfl, hk⟩
  have HB1 := Lib.hid (Btrans hb hk)
  have HQ1 := Lib.hid (hq.below hk)
  clear hb hq hk
  have cQ := HQ1.out.cells
  have lQ := HQ1.out.lt
  go_wp2_with fail
  go_at_call 10
  refine (great_any _ t _ (HT.out.below HB1.out)).mono ?_
  rintro e W2 ⟨rfl, hk⟩
  have HB2 := Lib.hid (Btrans HB1.out hk)
  have HQ2 := Lib.hid (HQ1.out.below hk)
  clear hk cQ lQ HB1 HQ1
  by_cases hs : smallT t
  · rw [great_no hs]
    have HS := Lib.hid hs
    clear hs
    have cQ := HQ2.out.cells
    have lQ := HQ2.out.lt
    go_wp2_with fail
    go_at_call 15
    refine (line_any _ t _ (HT.out.below HB2.out) H6.out (HE.out.below HB2.out) (small_sz HS.out)).mono ?_
    rintro e W3 ⟨rfl, hk⟩
    have HB3 := Lib.hid (Btrans HB2.out hk)
    have HQ3 := Lib.hid (HQ2.out.below hk)
    clear hk cQ lQ HB2 HQ2
    have cQ := HQ3.out.cells
    have lQ := HQ3.out.lt
    go_wp2_with fail
    go_at_call 11
    refine (read_any (strB (lineR t)) _ (Nat.le_trans (small_str HS.out H6.out) (by decide)) (HE.out.below HB3.out)).mono ?_
    rintro e W4 ⟨hR, hk⟩
    rw [strB_data] at hR
    have HB4 := Lib.hid (Btrans HB3.out hk)
    have HQ4 := Lib.hid (HQ3.out.below hk)
    clear hk cQ lQ HB3 HQ3
    by_cases hr : tdR t
    · obtain ⟨v4, rfl, hv⟩ := hR.yes (read_line hr H6.out)
      obtain ⟨CA4, cc4, RA4, rc4, HA4, hc4, rfl⟩ := hv.shape
      have HV := Lib.hid hv
      have HRt := Lib.hid hr
      have hcmp := cmp_ne (line_ne hr)
      clear hR hv hr
      have cQ := HQ4.out.cells
      have lQ := HQ4.out.lt
      go_wp2_with fail
      go_at_call 13
      refine calls_world (fun W => Below W4.heap.size W4 W ∧ Blk W W4.heap.size 25 #[.int .i64 t.tick, .slice CA4 t.cells.length cc4, .slice RA4 t.rules.length rc4, .slice HA4 t.chans.length hc4]) ⟨by go_grown, Blk.new _ _ _ _ (by first | rfl | simp)⟩ fun U4 ⟨hb, hq⟩ => ?_
      refine (right_any _ t _ (HT.out.below (Btrans HB4.out hb))).mono ?_
      rintro e W5 ⟨rfl, hk⟩
      rw [decide_eq_true HRt.out]
      have HB5 := Lib.hid (Btrans (Btrans HB4.out hb) hk)
      have HQ5 := Lib.hid ((HQ4.out.below hb).below hk)
      have HP5 := Lib.hid (hq.below hk)
      have HV5 := Lib.hid ((HV.out.below hb).below hk)
      clear hb hq hk cQ lQ HQ4
      have cQ := HQ5.out.cells
      have lQ := HQ5.out.lt
      have cP := HP5.out.cells
      have lP := HP5.out.lt
      go_wp2_with fail
      go_at_call 17
      refine (sameT_any _ _ t t _ (HT.out.below HB5.out) HV5.out).mono ?_
      rintro e W6 ⟨rfl, hk⟩
      rw [decide_eq_true rfl]
      have HB6 := Lib.hid (Btrans HB5.out hk)
      clear hk cQ lQ cP lP
      go_wp2
      go_ret
      exact ⟨by rfl, HB6.out⟩
    · have hl := line_none hr
      rw [hl] at hR ⊢
      obtain ⟨v4, rfl, hv⟩ := hR.no read_nil
      obtain ⟨CA4, cc4, RA4, rc4, HA4, hc4, rfl⟩ := hv.shape
      have hcmp : ((strB []).toList == []) = true := by rw [toList_data]; rfl
      have HRt := Lib.hid hr
      clear hR hv hr
      have cQ := HQ4.out.cells
      have lQ := HQ4.out.lt
      go_wp2_with fail
      go_at_call 13
      refine calls_world (fun W => Below W4.heap.size W4 W) (by go_grown) fun U4 hb => ?_
      refine (right_any _ t _ (HT.out.below (Btrans HB4.out hb))).mono ?_
      rintro e W5 ⟨rfl, hk⟩
      rw [decide_eq_false HRt.out]
      have HB5 := Lib.hid (Btrans (Btrans HB4.out hb) hk)
      clear hb hk cQ lQ HQ4
      go_wp2
      go_ret
      exact ⟨by rfl, HB5.out⟩
  · rw [great_yes hs]
    clear hs
    go_wp2
    go_ret
    exact ⟨by rfl, HB2.out⟩
end Go.Proofs.YtaelhgkodcgmnaaDoor
