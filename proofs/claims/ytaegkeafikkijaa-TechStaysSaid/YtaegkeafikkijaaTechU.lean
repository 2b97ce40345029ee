/- Layer 20: laws, walked. -/
import Derived.Test.YtaegkeafikkijaaTechR
namespace Go.Proofs.Ytaegkeafikkijaa
open Go.ChangeShapes Go.WideShapes Go.ChangeAt Go.RowKit
set_option linter.unusedVariables false
set_option linter.unusedSimpArgs false

set_option maxRecDepth 100000 in
set_option maxHeartbeats 4000000 in
theorem walk_TechStays (n : Int) (vl : Value) (l : List Bool) (vm : Value) (m : List Bool) (w : World) (w0 : (Lit.int .u8 n).wf = true) (h1 : Row w vl (l.map .bool)) (h2 : Row w vm (m.map .bool)) :
    Calls Try.prog 6 #[.int .u8 n, vl, vm] w fun e w' => e = .returned (.bool true) ∧ Below w.heap.size w w' := by
  have bn := bounds_u8 w0
  have hn0 : 1 ≤ n % 6 + 1 ∧ n % 6 + 1 ≤ 6 := by omega
  have HL := h1
  have HM := h2
  obtain ⟨A, c, rfl, hc, hcm⟩ := h1.shape2
  obtain ⟨B, d, rfl, hd, hdm⟩ := h2.shape2
  rw [List.length_map] at hc hd
  simp only [List.length_map] at HL HM ⊢
  clear h1 h2 w0
  have HL0 := Lib.hid HL
  have HM0 := Lib.hid HM
  clear HL HM
  go_enter Try.func6, Try.ntmps6
  go_wp2_with fail
  refine calls_world (fun W1 => Below w.heap.size w W1 ∧ Row W1 (.slice A l.length c) (l.map .bool) ∧ Row W1 (.slice B m.length d) (m.map .bool)) ⟨(by go_grown), (HL0.out.below (by go_grown)), (HM0.out.below (by go_grown))⟩ fun W1 ⟨hb1, qHL, qHM⟩ => ?_
  have HL1 := Lib.hid qHL
  have HM1 := Lib.hid qHM
  clear qHL qHM HL0 HM0
  refine (head_any _).mono ?_
  rintro e W2 ⟨rfl, hk⟩
  have hb2 := hb1.trans (hk.mono hb1.size)
  have HL2 := Lib.hid (HL1.out.below hk)
  have HM2 := Lib.hid (HM1.out.below hk)
  clear hk HL1 HM1 hb1
  go_wp2_with fail
  refine (limit_any n _ bn.1 bn.2).mono ?_
  rintro e W3 ⟨rfl, hk⟩
  have hb3 := hb2.trans (hk.mono hb2.size)
  have HL3 := Lib.hid (HL2.out.below hk)
  have HM3 := Lib.hid (HM2.out.below hk)
  clear hk HL2 HM2 hb2
  generalize n % 6 + 1 = kk at *
  by_cases hbl : 300 < l.length
  · have hz := hb3.size
    go_wp2
    go_ret
    exact ⟨by simp, by go_grown⟩
  by_cases hbm : 300 < m.length
  · have hz := hb3.size
    go_wp2
    go_ret
    exact ⟨by simp, by go_grown⟩
  go_wp2_with fail
  refine calls_world (fun W4 => Below w.heap.size w W4 ∧ Row W4 (.slice A l.length c) (l.map .bool) ∧ Row W4 (.slice B m.length d) (m.map .bool)) ⟨(hb3.trans ((show Below W3.heap.size W3 _ by go_grown).mono hb3.size)), (HL3.out.below (by go_grown)), (HM3.out.below (by go_grown))⟩ fun W4 ⟨hb4, qHL, qHM⟩ => ?_
  have HL4 := Lib.hid qHL
  have HM4 := Lib.hid qHM
  clear qHL qHM HL3 HM3 hb3
  refine (tsteps_any kk _ _ l m _ hn0.1 (by omega) HL4.out HM4.out (by omega)).mono ?_
  rintro e W5 ⟨v, rfl, hv, hk⟩
  have hb5 := hb4.trans (hk.mono hb4.size)
  have HL5 := Lib.hid (HL4.out.below hk)
  have HM5 := Lib.hid (HM4.out.below hk)
  clear hk HL4 HM4 hb4
  obtain ⟨V, vc, rfl, hvc, hvm⟩ := hv.shape2
  have HV := Lib.hid hv
  clear hv
  go_wp2
  go_loopw [10, 11, 12] (fun t u i wr => ∃ k : Nat, k ≤ l.length ∧ i = .int .i64 k ∧ ∃ q : Bool, t = .bool (trun kk l m k).on ∧ u = .bool q ∧ ((trun kk l m k).on = true → q = (trun kk l m k).ok) ∧ Below w.heap.size w wr ∧ (∀ p, wr.cell? p = W5.cell? p)) (fun _ _ i _ => l.length - (intOf i).toNat)
  case atStart => exact ⟨0, Nat.zero_le _, rfl, false, rfl, rfl, fun _ => rfl, hb5, fun _ => rfl⟩
  case round =>
    obtain ⟨k, hk, rfl, q, rfl, rfl, hq, hbw, hce⟩ := hrel
    by_cases hlt : k < l.length
    · obtain ⟨z, hz⟩ : ∃ z, (alarms kk l m)[k]? = some z := ⟨_, alarms_at kk l m k hlt⟩
      obtain ⟨ad, rfl, ha1, ha2⟩ := HV.out.at2 k z hz
      have hzz : z = ((trun kk l m (k + 1)).on, (trun kk l m (k + 1)).now) := Option.some.inj (hz.symm.trans (alarms_at kk l m k hlt))
      rw [hzz] at ha1 ha2
      rw [← hce] at ha1 ha2
      rcases k with _ | j
      · have t0 : trun kk l m 0 = ⟨0, false, false, false⟩ := rfl
        have hst := stays_step kk (trun kk l m (0)) (l.getD (0) false) (m.getD (0) false) q hn0.1 (trun_right kk l m (0) hn0.1) hq
        have HON := Lib.hid (show (trun kk l m (0 + 1)).on = slawEnd (trun kk l m (0)).now (trun kk l m (0 + 1)).now (trun kk l m (0)).on q (m.getD (0) false) from hst.1)
        have HOK := Lib.hid (show (trun kk l m (0 + 1)).on = true → slawOk (trun kk l m (0)).now (trun kk l m (0 + 1)).now (trun kk l m (0)).on q (m.getD (0) false) = (trun kk l m (0 + 1)).ok from hst.2)
        replace ha1 : wr.cell? (ad.add ((0) * 2)) = some (.bool (slawEnd (trun kk l m (0)).now (trun kk l m (0 + 1)).now (trun kk l m (0)).on q (m.getD (0) false))) := by rw [← HON.out]; exact ha1
        clear hst
        have HC := Lib.hid hce
        generalize hn1 : (trun kk l m (0 + 1)).now = nw at *
        rw [t0] at HON HOK ha1 ⊢
        simp only at HON HOK ha1 ⊢
        clear hq t0 hz hzz hn1
        have hlt' : (0 : Int) < (l.length : Int) := by omega
        have add0 : ∀ a : Addr, a.add 0 = a := fun a => by simp [Addr.add]
        rw [Nat.zero_mul, add0] at ha1 ha2
        have hcy0 : ∀ (pd : Addr) (y : Bool), wr.cell? (pd.add 0) = some (.bool y) → wr.cell? pd = some (.bool y) := fun pd y h => by rw [add0] at h; exact h
        clear add0
        by_cases hkm : 0 < m.length
        · obtain ⟨y, hy⟩ : ∃ y, m[0]? = some y := ⟨_, List.getElem?_eq_getElem hkm⟩
          obtain ⟨pd, rfl, hcy⟩ := HM5.out.at1 (0) (.bool y) (by rw [List.getElem?_map, hy]; rfl)
          rw [← hce] at hcy
          replace hcy := hcy0 _ _ hcy
          clear hcy0
          have hyd := getD_lt m (0) false y hy
          rw [hyd] at HON HOK ha1
          clear hy hyd hce
          cases y <;> cases nw <;> cases q
          all_goals
            simp only [slawEnd, slawOn, slawOk, Bool.and_true, Bool.and_false, Bool.true_and, Bool.false_and, Bool.not_true, Bool.not_false, if_true, if_false, Bool.false_eq_true, reduceCtorEq] at HON HOK ha1
            go_wp2
            go_roundw
            case rel => exact ⟨0 + 1, by omega, by go_num, _, by rw [HON.out], rfl, fun hh => (HOK.out hh), hbw, fun p => HC.out p⟩
            case measure => simp [intOf]; omega
        · have hyd := getD_ge m (0) (by omega)
          rw [hyd] at HON HOK ha1
          have hab : decide (((0 : Nat) : Int) < (m.length : Int)) = false := decide_eq_false (by omega)
          clear hyd hce
          cases nw <;> cases q
          all_goals
            simp only [slawEnd, slawOn, slawOk, Bool.and_true, Bool.and_false, Bool.true_and, Bool.false_and, Bool.not_true, Bool.not_false, if_true, if_false, Bool.false_eq_true, reduceCtorEq] at HON HOK ha1
            go_wp2
            go_roundw
            case rel => exact ⟨0 + 1, by omega, by go_num, _, by rw [HON.out], rfl, fun hh => (HOK.out hh), hbw, fun p => HC.out p⟩
            case measure => simp [intOf]; omega
      · obtain ⟨z2, hz2⟩ : ∃ z, (alarms kk l m)[j]? = some z := ⟨_, alarms_at kk l m j (by omega)⟩
        obtain ⟨ad2, had2, hp1, hp2⟩ := HV.out.at2 j z2 hz2
        cases had2
        have hzz2 : z2 = ((trun kk l m (j + 1)).on, (trun kk l m (j + 1)).now) := Option.some.inj (hz2.symm.trans (alarms_at kk l m j (by omega)))
        rw [hzz2] at hp2
        rw [← hce] at hp2
        have hst := stays_step kk (trun kk l m (j + 1)) (l.getD (j + 1) false) (m.getD (j + 1) false) q hn0.1 (trun_right kk l m (j + 1) hn0.1) hq
        have HON := Lib.hid (show (trun kk l m (j + 1 + 1)).on = slawEnd (trun kk l m (j + 1)).now (trun kk l m (j + 1 + 1)).now (trun kk l m (j + 1)).on q (m.getD (j + 1) false) from hst.1)
        have HOK := Lib.hid (show (trun kk l m (j + 1 + 1)).on = true → slawOk (trun kk l m (j + 1)).now (trun kk l m (j + 1 + 1)).now (trun kk l m (j + 1)).on q (m.getD (j + 1) false) = (trun kk l m (j + 1 + 1)).ok from hst.2)
        replace ha1 : wr.cell? (ad.add ((j + 1) * 2)) = some (.bool (slawEnd (trun kk l m (j + 1)).now (trun kk l m (j + 1 + 1)).now (trun kk l m (j + 1)).on q (m.getD (j + 1) false))) := by rw [← HON.out]; exact ha1
        clear hst
        have HC := Lib.hid hce
        generalize hn1 : (trun kk l m (j + 1 + 1)).now = nw at *
        have ej : ((j + 1 : Nat) : Int) = (j : Int) + 1 := by omega
        simp only at hp2 ha2
        generalize hn0' : (trun kk l m (j + 1)).now = pn at *
        generalize hn2 : (trun kk l m (j + 1)).on = on at *
        clear hq hz hzz hn1 hz2 hzz2 hp1 hn0'
        rw [ej]
        have HN2 := Lib.hid hn2
        clear hn2
        by_cases hkm : j + 1 < m.length
        · obtain ⟨y, hy⟩ : ∃ y, m[j + 1]? = some y := ⟨_, List.getElem?_eq_getElem hkm⟩
          obtain ⟨pd, rfl, hcy⟩ := HM5.out.at1 (j + 1) (.bool y) (by rw [List.getElem?_map, hy]; rfl)
          rw [← hce] at hcy
          replace hcy : wr.cell? ⟨pd.block, pd.off + (j + 1), none⟩ = some (.bool y) := by simpa [Addr.add] using hcy
          have hyd := getD_lt m (j + 1) false y hy
          rw [hyd] at HON HOK ha1
          clear hy hyd hce
          cases y <;> cases pn <;> cases nw <;> cases on <;> cases q
          all_goals
            simp only [slawEnd, slawOn, slawOk, Bool.and_true, Bool.and_false, Bool.true_and, Bool.false_and, Bool.not_true, Bool.not_false, if_true, if_false, Bool.false_eq_true, reduceCtorEq] at HON HOK ha1
            go_wp2
            go_roundw
            case rel => exact ⟨j + 1 + 1, by omega, by go_num, _, by rw [HON.out], rfl, fun hh => (HOK.out hh), hbw, fun p => HC.out p⟩
            case measure => simp [intOf]; omega
        · have hyd := getD_ge m (j + 1) (by omega)
          rw [hyd] at HON HOK ha1
          have hab : decide (((j + 1 : Nat) : Int) < (m.length : Int)) = false := decide_eq_false (by omega)
          rw [ej] at hab
          clear hyd hce
          cases pn <;> cases nw <;> cases on <;> cases q
          all_goals
            simp only [slawEnd, slawOn, slawOk, Bool.and_true, Bool.and_false, Bool.true_and, Bool.false_and, Bool.not_true, Bool.not_false, if_true, if_false, Bool.false_eq_true, reduceCtorEq] at HON HOK ha1
            go_wp2
            go_roundw
            case rel => exact ⟨j + 1 + 1, by omega, by go_num, _, by rw [HON.out], rfl, fun hh => (HOK.out hh), hbw, fun p => HC.out p⟩
            case measure => simp [intOf]; omega
    · go_wp2
      go_ret
      exact ⟨rfl, hbw⟩
end Go.Proofs.Ytaegkeafikkijaa
