/- Layer 23: the law RenderPrints. -/
import Derived.Test.YtaelhgkodcgmnaaDoorRendAM
import Derived.Lib.IndexLaws
import Derived.Handy
import Derived.IntWalk
namespace Go.Proofs.YtaelhgkodcgmnaaDoor
open Go.ChangeShapes Go.WideShapes Go.ChangeAt Go.RowKit Go.Deep
open Go.Shelf
set_option linter.unusedVariables false
set_option linter.unusedSimpArgs false

theorem none_index {l : Str} (h : (10 : UInt8) ∉ l) : ¬ (0 : Int) ≤ Lib.indexByte l 10 := by
  have h1 := Lib.indexByte_ge l 10
  intro h2
  obtain ⟨o, ho⟩ : ∃ o : Nat, Lib.indexByte l 10 = o := ⟨(Lib.indexByte l 10).toNat, by omega⟩
  exact h (List.mem_of_getElem? (Lib.indexByte_some ho).1)
set_option maxRecDepth 100000 in
set_option maxHeartbeats 8000000 in
theorem walk_RenderPrints (s : ByteArray) (w : World) (hE : Env w) (h0 : s.size ≤ maxLen) :
    Calls Tryd.prog 5 #[.string s] w fun e w' => e = .returned (.bool true) ∧ Below w.heap.size w w' := by
  have HE := Lib.hid hE
  clear hE h0
  go_enter Tryd.func5, Tryd.ntmps5
  go_wp2_with fail
  go_at_call 9
  refine (head_any _ HE.out).mono ?_
  rintro e W1 ⟨rfl, hk⟩
  have HB1 := Lib.hid hk
  clear hk
  by_cases hz : (2000 : Int) < (s.size : Int)
  · go_wp2
    go_ret
    exact ⟨by rfl, HB1.out⟩
  · go_wp2_with fail
    go_at_call 11
    refine (read_any s _ (by omega) (HE.out.below HB1.out)).mono ?_
    rintro e W2 ⟨hR, hk⟩
    have HB2 := Lib.hid (Btrans HB1.out hk)
    clear hk
    cases hr : readR s.data.toList with
    | none =>
      obtain ⟨v2, rfl, hv⟩ := hR.no hr
      obtain ⟨CA, cc, RA, rc, HA_, hc, rfl⟩ := hv.shape
      have HV := Lib.hid hv
      clear hR hv hr
      go_wp2_with fail
      go_at_call 17
      refine calls_world (fun W => Below W2.heap.size W2 W) (by go_grown) fun U2 hb => ?_
      refine (sameT_any _ _ Td.zero Td.zero _ (HV.out.below hb) ToldV.zero_).mono ?_
      rintro e W3 ⟨rfl, hk⟩
      rw [decide_eq_true rfl]
      have HB3 := Lib.hid (Btrans (Btrans HB2.out hb) hk)
      clear hb hk
      go_wp2
      go_ret
      exact ⟨by rfl, HB3.out⟩
    | some t =>
      obtain ⟨v2, rfl, hv⟩ := hR.yes hr
      obtain ⟨CA, cc, RA, rc, HA_, hc, rfl⟩ := hv.shape
      have HV := Lib.hid hv
      obtain ⟨h1, h2, h3⟩ := read_some hr
      have h4 := read_64 hr
      have h5 : t.cells.length + t.rules.length + t.chans.length ≤ 1000000 := by
        have e : toldR (spl 32 s.data.toList) = some t := by
          unfold readR at hr
          split at hr
          · rename_i u e
            split at hr
            · injection hr with hr
              subst hr
              exact e
            · cases hr
          · cases hr
        have g1 := told_len e
        have g2 := spl_len 32 s.data.toList
        have g3 : s.data.toList.length = s.size := by rfl
        omega
      have H1 := Lib.hid h1
      have H4 := Lib.hid h4
      have H5 := Lib.hid h5
      have hst : strB (lineR t) = s := (str_eq h2.symm).symm
      have hcmp : (s.toList == []) = false := by rw [toList_data, beq_eq_false_iff_ne]; exact h3
      have hno : (10 : UInt8) ∉ s.data.toList := by rw [← h2]; exact line_no10 t
      have HST := Lib.hid hst
      have HNO := Lib.hid hno
      clear hR hv hr h1 h2 h3 h4 h5 hst hno
      go_wp2_with fail
      go_at_call 13
      refine calls_world (fun W => Below W2.heap.size W2 W ∧ Blk W W2.heap.size 25 #[.int .i64 t.tick, .slice CA t.cells.length cc, .slice RA t.rules.length rc, .slice HA_ t.chans.length hc]) ⟨by go_grown, Blk.new _ _ _ _ (by first | rfl | simp)⟩ fun U2 ⟨hb, hq⟩ => ?_
      refine (right_any _ t _ (HV.out.below hb)).mono ?_
      rintro e W3 ⟨rfl, hk⟩
      rw [decide_eq_true H1.out]
      have HB3 := Lib.hid (Btrans (Btrans HB2.out hb) hk)
      have HQ3 := Lib.hid (hq.below hk)
      have HV3 := Lib.hid ((HV.out.below hb).below hk)
      clear hb hq hk
      have cQ := HQ3.out.cells
      have lQ := HQ3.out.lt
      go_wp2_with fail
      go_at_call 15
      refine (line_any _ t _ HV3.out H4.out (HE.out.below HB3.out) H5.out).mono ?_
      rintro e W4 ⟨rfl, hk⟩
      rw [HST.out]
      have HB4 := Lib.hid (Btrans HB3.out hk)
      clear hk cQ lQ
      have hself : (s.toList == s.toList) = true := beq_self_eq_true _
      go_wp2_with fail
      go_at_call 20
      refine (Tryd.strings_Contains_one s 10 _).mono ?_
      rintro e W5 ⟨rfl, hw⟩
      subst hw
      have hd : decide (0 ≤ Lib.indexByte s.data.toList 10) = false := decide_eq_false (none_index HNO.out)
      rw [hd]
      go_wp2
      go_ret
      exact ⟨by rfl, HB4.out⟩
end Go.Proofs.YtaelhgkodcgmnaaDoor
