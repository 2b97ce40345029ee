/- Layer 20: laws, walked. -/
import Derived.Test.YtaegkeafikkijaaTechR
namespace Go.Proofs.Ytaegkeafikkijaa
open Go.ChangeShapes Go.WideShapes Go.ChangeAt Go.RowKit
set_option linter.unusedVariables false
set_option linter.unusedSimpArgs false

theorem elB : Elem Try.prog 24 4 1 1 := Elem.mk' (z := .bool false) Try.underlying24 (by kernel_rfl) rfl (by decide)
set_option maxRecDepth 100000 in
set_option maxHeartbeats 4000000 in
theorem walk_TechQuiet (n : Int) (vl : Value) (l : List Bool) (vm : Value) (m : List Bool) (w : World) (w0 : (Lit.int .u8 n).wf = true) (h1 : Row w vl (l.map .bool)) (h2 : Row w vm (m.map .bool)) :
    Calls Try.prog 7 #[.int .u8 n, vl, vm] w fun e w' => e = .returned (.bool true) ∧ Below w.heap.size w w' := by
  have bn := bounds_u8 w0
  have hn0 : 1 ≤ n % 6 + 1 ∧ n % 6 + 1 ≤ 6 := by omega
  have HL := h1
  have HM := h2
  obtain ⟨A, c, rfl, hc, hcm⟩ := h1.shape2
  obtain ⟨B, d, rfl, hd, hdm⟩ := h2.shape2
  rw [List.length_map] at hc hd
  simp only [List.length_map] at HL HM ⊢
  clear h1 h2 w0
  have HL0 := Lib.hid HL
  have HM0 := Lib.hid HM
  clear HL HM
  go_enter Try.func7, Try.ntmps7
  go_wp2_with fail
  refine calls_world (fun W1 => Below w.heap.size w W1 ∧ Row W1 (.slice A l.length c) (l.map .bool) ∧ Row W1 (.slice B m.length d) (m.map .bool)) ⟨(by go_grown), (HL0.out.below (by go_grown)), (HM0.out.below (by go_grown))⟩ fun W1 ⟨hb1, qHL, qHM⟩ => ?_
  have HL1 := Lib.hid qHL
  have HM1 := Lib.hid qHM
  clear qHL qHM HL0 HM0
  refine (head_any _).mono ?_
  rintro e W2 ⟨rfl, hk⟩
  have hb2 := hb1.trans (hk.mono hb1.size)
  have HL2 := Lib.hid (HL1.out.below hk)
  have HM2 := Lib.hid (HM1.out.below hk)
  clear hk HL1 HM1 hb1
  go_wp2_with fail
  refine (limit_any n _ bn.1 bn.2).mono ?_
  rintro e W3 ⟨rfl, hk⟩
  have hb3 := hb2.trans (hk.mono hb2.size)
  have HL3 := Lib.hid (HL2.out.below hk)
  have HM3 := Lib.hid (HM2.out.below hk)
  clear hk HL2 HM2 hb2
  generalize n % 6 + 1 = kk at *
  by_cases hbl : 300 < l.length
  · have hz := hb3.size
    go_wp2
    go_ret
    exact ⟨by simp, by go_grown⟩
  by_cases hbm : 300 < m.length
  · have hz := hb3.size
    go_wp2
    go_ret
    exact ⟨by simp, by go_grown⟩
  go_wp2_with fail
  refine calls_world (fun W4 => Below w.heap.size w W4 ∧ Row W4 (.slice A l.length c) (l.map .bool) ∧ Row W4 (.slice B m.length d) (m.map .bool)) ⟨(hb3.trans ((show Below W3.heap.size W3 _ by go_grown).mono hb3.size)), (HL3.out.below (by go_grown)), (HM3.out.below (by go_grown))⟩ fun W4 ⟨hb4, qHL, qHM⟩ => ?_
  have HL4 := Lib.hid qHL
  have HM4 := Lib.hid qHM
  clear qHL qHM HL3 HM3 hb3
  refine (tsteps_any kk _ _ l [] _ hn0.1 (by omega) HL4.out Row.nil_ (by omega)).mono ?_
  rintro e W5 ⟨v, rfl, hv, hk⟩
  have hb5 := hb4.trans (hk.mono hb4.size)
  have HL5 := Lib.hid (HL4.out.below hk)
  have HM5 := Lib.hid (HM4.out.below hk)
  clear hk HL4 HM4 hb4
  obtain ⟨V, vc, rfl, hvc, hvm⟩ := hv.shape2
  have HV5 := Lib.hid hv
  clear hv
  go_wp2
  go_loopw [10, 11] (fun v i wr => ∃ k : Nat, k ≤ l.length ∧ i = .int .i64 k ∧ Below W5.heap.size W5 wr ∧ wr.ownsRow W5.heap.size 4 1 v k (List.replicate k (.bool true))) (fun _ i _ => l.length - (intOf i).toNat)
  case atStart => exact ⟨0, Nat.zero_le _, rfl, Below.refl _ _, own_nil _ _⟩
  case round =>
    obtain ⟨k, hk, rfl, hbw, ho⟩ := hrel
    by_cases hlt : k < l.length
    · have HO := Lib.hid ho
      clear ho
      go_wp2_with (at_builtin; refine wpList_app elB rfl (.tmp 35) (.tmp 36) rfl W5.heap.size _ _ _ rfl (HO.out.alloc _) _ [.bool true] rfl ?_ ?_ ?_ ?_ ?_ ?_)
      case refine_1 => exact Row.of_block (heap_at _ _ _ rfl) rfl rfl (Nat.le_refl _) (by decide)
      case refine_2 => simp [Value.oneCell']
      case refine_3 => unfold maxLen; simp; omega
      case refine_4 => simp; omega
      case refine_5 => have := hbw.size; simp; omega
      intro v2 w3 own2 hg2 hat2
      have hb3 : Below W5.heap.size W5 w3 := below_app (hbw.alloc hbw.size _) (by have := hbw.size; simp; omega) (HO.out.alloc _) hg2 (Nat.le_refl _)
      have HO2 := Lib.hid own2
      clear own2 hg2 hat2 hbw HO
      go_wp2
      go_roundw
      case rel => exact ⟨k + 1, by omega, by go_num, hb3, by rw [List.replicate_succ']; exact HO2.out⟩
      case measure => simp [intOf]; omega
    · have : k = l.length := by omega
      subst this
      have HA := Lib.hid (Row.of_own ho)
      clear ho hlt hk
      have hk := hbw
      clear hbw
      obtain ⟨wr2, hwr⟩ : ∃ x, x = wr := ⟨_, rfl⟩
      clear hwr wr2
      have hb6 := hb5.trans (hk.mono hb5.size)
      have HL6 := Lib.hid (HL5.out.below hk)
      have HM6 := Lib.hid (HM5.out.below hk)
      have HV6 := Lib.hid (HV5.out.below hk)
      clear hk hb5 HL5 HM5 HV5
      rw [← List.map_replicate] at HA
      go_wp2_with fail
      refine (tsteps_any kk _ _ (List.replicate l.length true) m _ hn0.1 (by omega) HA.out HM6.out (by simp; omega)).mono ?_
      rintro e w5 ⟨u, rfl, hu, hk⟩
      have hb9 := hb6.trans (hk.mono hb6.size)
      have HV9 := Lib.hid (HV6.out.below hk)
      rw [List.length_replicate] at hu
      obtain ⟨U, uc, rfl, huc, hum⟩ := hu.shape2
      have HU := Lib.hid hu
      clear hu hk HA
      have hnq := fun w => neqA w false false false false
      simp only [ne_eq, not_true_eq_false, decide_false] at hnq
      have hgd := guardA
      go_wp2
      go_loopw [13] (fun i wr => ∃ k : Nat, k ≤ l.length ∧ i = .int .i64 k ∧ Below w.heap.size w wr ∧ (∀ p, wr.cell? p = w5.cell? p)) (fun i _ => l.length - (intOf i).toNat)
      case atStart => exact ⟨0, Nat.zero_le _, rfl, hb9, fun _ => rfl⟩
      case round =>
        obtain ⟨k, hk, rfl, hbw, hce⟩ := hrel
        by_cases hlt : k < l.length
        · obtain ⟨z, hz⟩ : ∃ z, (alarms kk l [])[k]? = some z := ⟨_, alarms_at kk l [] k hlt⟩
          obtain ⟨ad, rfl, ha1, ha2⟩ := HV9.out.at2 k z hz
          have hzz : z = ((trun kk l [] (k + 1)).on, (trun kk l [] (k + 1)).now) := Option.some.inj (hz.symm.trans (alarms_at kk l [] k hlt))
          rw [hzz] at ha1
          rw [← hce] at ha1
          obtain ⟨zb, hzb⟩ : ∃ z, (alarms kk (List.replicate l.length true) m)[k]? = some z := ⟨_, alarms_at kk _ m k (by simp; omega)⟩
          obtain ⟨bd, rfl, hc1, hc2⟩ := HU.out.at2 k zb hzb
          have hzb2 := Option.some.inj (hzb.symm.trans (alarms_at kk (List.replicate l.length true) m k (by simp; omega)))
          rw [quiet_all kk l.length m (k + 1) hn0.1 (by omega)] at hzb2
          rw [hzb2] at hc1 hc2
          rw [← hce] at hc1 hc2
          simp only at ha1 hc1 hc2
          clear hz hzz hzb hzb2 ha2
          have HC := Lib.hid hce
          rcases k with _ | j
          · have add0 : ∀ a : Addr, a.add 0 = a := fun a => by simp [Addr.add]
            rw [Nat.zero_mul, add0] at ha1 hc1 hc2
            clear add0 hce
            have hlt' : (0 : Int) < (l.length : Int) := by omega
            generalize (trun kk l [] (0 + 1)).on = on at *
            go_wp2
            go_roundw
            case rel => exact ⟨0 + 1, by omega, by go_num, hbw, fun p => HC.out p⟩
            case measure => simp [intOf]; omega
          · obtain ⟨z2, hz2⟩ : ∃ z, (alarms kk l [])[j]? = some z := ⟨_, alarms_at kk l [] j (by omega)⟩
            obtain ⟨ad2, had2, hp1, hp2⟩ := HV9.out.at2 j z2 hz2
            cases had2
            have hzz2 : z2 = ((trun kk l [] (j + 1)).on, (trun kk l [] (j + 1)).now) := Option.some.inj (hz2.symm.trans (alarms_at kk l [] j (by omega)))
            rw [hzz2] at hp1
            rw [← hce] at hp1
            have hqo := quiet_on kk l (j + 1)
            have ej : ((j + 1 : Nat) : Int) = (j : Int) + 1 := by omega
            simp only at hp1
            rw [ej]
            clear hz2 hzz2 hp2 hce
            generalize (trun kk l [] (j + 1)).on = on0 at *
            generalize (trun kk l [] (j + 1 + 1)).on = on1 at *
            cases on0
            · clear hqo
              cases on1
              all_goals
                go_wp2
                go_roundw
                case rel => exact ⟨j + 1 + 1, by omega, by go_num, hbw, fun p => HC.out p⟩
                case measure => simp [intOf]; omega
            · have h1 := hqo rfl
              subst h1
              clear hqo
              go_wp2
              go_roundw
              case rel => exact ⟨j + 1 + 1, by omega, by go_num, hbw, fun p => HC.out p⟩
              case measure => simp [intOf]; omega
        · go_wp2
          go_ret
          exact ⟨rfl, hbw⟩
end Go.Proofs.Ytaegkeafikkijaa
