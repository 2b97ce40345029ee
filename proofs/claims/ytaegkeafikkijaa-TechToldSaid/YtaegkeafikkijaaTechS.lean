/- Layer 20: laws, walked. -/
import Derived.Test.YtaegkeafikkijaaTechR
namespace Go.Proofs.Ytaegkeafikkijaa
open Go.ChangeShapes Go.WideShapes Go.ChangeAt Go.RowKit
set_option linter.unusedVariables false
set_option linter.unusedSimpArgs false

set_option maxRecDepth 100000 in
set_option maxHeartbeats 4000000 in
theorem walk_TechTold (n : Int) (vl : Value) (l : List Bool) (vm : Value) (m : List Bool) (w : World) (w0 : (Lit.int .u8 n).wf = true) (h1 : Row w vl (l.map .bool)) (h2 : Row w vm (m.map .bool)) :
    Calls Try.prog 5 #[.int .u8 n, vl, vm] w fun e w' => e = .returned (.bool true) ∧ Below w.heap.size w w' := by
  have bn := bounds_u8 w0
  have hn0 : 1 ≤ n % 6 + 1 ∧ n % 6 + 1 ≤ 6 := by omega
  have HL := h1
  have HM := h2
  obtain ⟨A, c, rfl, hc, hcm⟩ := h1.shape2
  obtain ⟨B, d, rfl, hd, hdm⟩ := h2.shape2
  rw [List.length_map] at hc hd
  simp only [List.length_map] at HL HM ⊢
  clear h1 h2 w0
  have HL0 := Lib.hid HL
  have HM0 := Lib.hid HM
  clear HL HM
  go_enter Try.func5, Try.ntmps5
  go_wp2_with fail
  refine calls_world (fun W1 => Below w.heap.size w W1 ∧ Row W1 (.slice A l.length c) (l.map .bool) ∧ Row W1 (.slice B m.length d) (m.map .bool)) ⟨(by go_grown), (HL0.out.below (by go_grown)), (HM0.out.below (by go_grown))⟩ fun W1 ⟨hb1, qHL, qHM⟩ => ?_
  have HL1 := Lib.hid qHL
  have HM1 := Lib.hid qHM
  clear qHL qHM HL0 HM0
  refine (head_any _).mono ?_
  rintro e W2 ⟨rfl, hk⟩
  have hb2 := hb1.trans (hk.mono hb1.size)
  have HL2 := Lib.hid (HL1.out.below hk)
  have HM2 := Lib.hid (HM1.out.below hk)
  clear hk HL1 HM1 hb1
  go_wp2_with fail
  refine (limit_any n _ bn.1 bn.2).mono ?_
  rintro e W3 ⟨rfl, hk⟩
  have hb3 := hb2.trans (hk.mono hb2.size)
  have HL3 := Lib.hid (HL2.out.below hk)
  have HM3 := Lib.hid (HM2.out.below hk)
  clear hk HL2 HM2 hb2
  generalize n % 6 + 1 = kk at *
  by_cases hbl : 300 < l.length
  · have hz := hb3.size
    go_wp2
    go_ret
    exact ⟨by simp, by go_grown⟩
  by_cases hbm : 300 < m.length
  · have hz := hb3.size
    go_wp2
    go_ret
    exact ⟨by simp, by go_grown⟩
  go_wp2_with fail
  refine calls_world (fun W4 => Below w.heap.size w W4 ∧ Row W4 (.slice A l.length c) (l.map .bool) ∧ Row W4 (.slice B m.length d) (m.map .bool)) ⟨(hb3.trans ((show Below W3.heap.size W3 _ by go_grown).mono hb3.size)), (HL3.out.below (by go_grown)), (HM3.out.below (by go_grown))⟩ fun W4 ⟨hb4, qHL, qHM⟩ => ?_
  have HL4 := Lib.hid qHL
  have HM4 := Lib.hid qHM
  clear qHL qHM HL3 HM3 hb3
  refine (tsteps_any kk _ _ l m _ hn0.1 (by omega) HL4.out HM4.out (by omega)).mono ?_
  rintro e W5 ⟨v, rfl, hv, hk⟩
  have hb5 := hb4.trans (hk.mono hb4.size)
  have HL5 := Lib.hid (HL4.out.below hk)
  have HM5 := Lib.hid (HM4.out.below hk)
  clear hk HL4 HM4 hb4
  obtain ⟨V, vc, rfl, hvc, hvm⟩ := hv.shape2
  have HV := Lib.hid hv
  clear hv
  go_wp2
  go_loopw [10, 11] (fun t i wr => ∃ k : Nat, k ≤ l.length ∧ i = .int .i64 k ∧ t = .int .i64 (nns l k) ∧ Below w.heap.size w wr ∧ (∀ p, wr.cell? p = W5.cell? p)) (fun _ i _ => l.length - (intOf i).toNat)
  case atStart => exact ⟨0, Nat.zero_le _, rfl, rfl, hb5, fun _ => rfl⟩
  case round =>
    obtain ⟨k, hk, rfl, rfl, hbw, hce⟩ := hrel
    by_cases hlt : k < l.length
    · obtain ⟨x, hx⟩ : ∃ x, l[k]? = some x := ⟨_, List.getElem?_eq_getElem hlt⟩
      obtain ⟨pd, rfl, hcx⟩ := HL5.out.at1 k (.bool x) (by rw [List.getElem?_map, hx]; rfl)
      rw [← hce] at hcx
      have hxd := getD_lt l k false x hx
      obtain ⟨z, hz⟩ : ∃ z, (alarms kk l m)[k]? = some z := ⟨_, alarms_at kk l m k hlt⟩
      obtain ⟨ad, rfl, ha1, ha2⟩ := HV.out.at2 k z hz
      have hzz : z = ((trun kk l m (k + 1)).on, (trun kk l m (k + 1)).now) := Option.some.inj (hz.symm.trans (alarms_at kk l m k hlt))
      rw [hzz] at ha1 ha2
      rw [← hce] at ha1 ha2
      have tb := nns_bd l k
      have hnow := trun_now kk l m (k + 1) hn0.1
      have hts : nns l (k + 1) = (if x = true then 0 else nns l k + 1) := by
        show (if l.getD k false = true then _ else _) = _
        rw [hxd]
      have HC := Lib.hid hce
      clear hz hzz hx hxd hce
      cases x
      · simp only [Bool.false_eq_true, if_false] at hts
        rw [hts] at hnow
        have HTS := Lib.hid hts
        clear hts
        by_cases hge : kk ≤ nns l k + 1
        · have hdd : decide (kk ≤ nns l k + 1) = true := decide_eq_true hge
          rw [hnow.1, hdd] at ha2
          rw [hnow.2 (hnow.1.trans hdd)] at ha1
          clear hnow
          go_wp2
          go_roundw
          case rel => exact ⟨k + 1, by omega, by go_num, by rw [HTS.out], hbw, fun p => HC.out p⟩
          case measure => simp [intOf]; omega
        · have hdd : decide (kk ≤ nns l k + 1) = false := decide_eq_false hge
          rw [hnow.1, hdd] at ha2
          clear hnow hge
          go_wp2
          go_roundw
          case rel => exact ⟨k + 1, by omega, by go_num, by rw [HTS.out], hbw, fun p => HC.out p⟩
          case measure => simp [intOf]; omega
      · simp only [if_true] at hts
        rw [hts] at hnow
        have HTS := Lib.hid hts
        clear hts
        have hdd : decide (kk ≤ 0) = false := decide_eq_false (by omega)
        rw [hnow.1, hdd] at ha2
        clear hnow
        go_wp2
        go_roundw
        case rel => exact ⟨k + 1, by omega, by go_num, by rw [HTS.out], hbw, fun p => HC.out p⟩
        case measure => simp [intOf]; omega
    · go_wp2
      go_ret
      exact ⟨rfl, hbw⟩
end Go.Proofs.Ytaegkeafikkijaa
