/- Layer 19: laws, walked. -/
import Derived.Test.YtmcjndnecohboaaPhysM
namespace Go.Proofs.Ytmcjndnecohboaa
open Go.ChangeShapes Go.WideShapes Go.ChangeAt Go.RowKit
set_option linter.unusedVariables false
set_option linter.unusedSimpArgs false

set_option maxRecDepth 100000 in
set_option maxHeartbeats 4000000 in
theorem walk_PhysLatch (n : Int) (la : Bool) (vl : Value) (l : List Int) (vm : Value) (m : List Bool) (w : World) (w0 : (Lit.int .u8 n).wf = true) (w5 : Ints .i64 w vl l) (w6 : Row w vm (m.map .bool)) :
    Calls Try.prog 7 #[.int .u8 n, .bool la, vl, vm] w fun e w' => e = .returned (.bool true) ∧ Below w.heap.size w w' := by
  have bn := bounds_u8 w0
  have hn0 : 1 ≤ n % 6 + 1 ∧ n % 6 + 1 ≤ 6 := by omega
  have HL := w5.1
  have HM := w6
  obtain ⟨A, c, rfl, hc, hcm⟩ := w5.1.shape2
  obtain ⟨B, d, rfl, hd, hdm⟩ := w6.shape2
  rw [List.length_map] at hc hd
  simp only [List.length_map] at HL HM ⊢
  clear w0 w5 w6
  have HL0 := Lib.hid HL
  have HM0 := Lib.hid HM
  clear HL HM
  go_enter Try.func7, Try.ntmps7
  go_wp2_with fail
  refine calls_world (fun W1 => Below w.heap.size w W1 ∧ Row W1 (.slice A l.length c) (l.map (.int .i64)) ∧ Row W1 (.slice B m.length d) (m.map .bool)) ⟨(by go_grown), (HL0.out.below (by go_grown)), (HM0.out.below (by go_grown))⟩ fun W1 ⟨hb1, qHL, qHM⟩ => ?_
  have HL1 := Lib.hid qHL
  have HM1 := Lib.hid qHM
  clear qHL qHM HL0 HM0
  refine (head_any _).mono ?_
  rintro e W2 ⟨rfl, hk⟩
  have hb2 := hb1.trans (hk.mono hb1.size)
  have HL2 := Lib.hid (HL1.out.below hk)
  have HM2 := Lib.hid (HM1.out.below hk)
  clear hk HL1 HM1 hb1
  go_wp2_with fail
  refine (hold_any n la _ bn.1 bn.2).mono ?_
  rintro e W3 ⟨rfl, hk⟩
  have hb3 := hb2.trans (hk.mono hb2.size)
  have HL3 := Lib.hid (HL2.out.below hk)
  have HM3 := Lib.hid (HM2.out.below hk)
  clear hk HL2 HM2 hb2
  generalize n % 6 + 1 = h at *
  by_cases hbl : 300 < l.length
  · have hz := hb3.size
    go_wp2
    go_ret
    exact ⟨by simp, by go_grown⟩
  by_cases hbm : 300 < m.length
  · have hz := hb3.size
    go_wp2
    go_ret
    exact ⟨by simp, by go_grown⟩
  go_wp2_with fail
  refine calls_world (fun W4 => Below w.heap.size w W4 ∧ Row W4 (.slice A l.length c) (l.map (.int .i64)) ∧ Row W4 (.slice B m.length d) (m.map .bool) ∧ Blk W4 W3.heap.size 29 #[.slice none 0 0, .int .i64 h, .bool la]) ⟨(hb3.trans ((show Below W3.heap.size W3 _ by go_grown).mono hb3.size)), (HL3.out.below (by go_grown)), (HM3.out.below (by go_grown)), (Blk.new _ _ _ _ (by first | rfl | simp))⟩ fun W4 ⟨hb4, qHL, qHM, qT⟩ => ?_
  have HL4 := Lib.hid qHL
  have HM4 := Lib.hid qHM
  have T4 := Lib.hid qT
  (try clear cT); (try clear lT); (try clear dT)
  clear qHL qHM qT HL3 HM3 hb3
  refine (steps_any (.slice none 0 0) h la _ _ l m _ hn0.1 (by omega) (HL4.out) (HM4.out) (by omega)).mono ?_
  rintro e W5 ⟨v, rfl, hv, hk⟩
  have hb5 := hb4.trans (hk.mono hb4.size)
  have HL5 := Lib.hid (HL4.out.below hk)
  have HM5 := Lib.hid (HM4.out.below hk)
  have T5 := Lib.hid (T4.out.below hk)
  (try clear cT); (try clear lT); (try clear dT)
  clear hk HL4 HM4 T4 hb4
  obtain ⟨V, vc, rfl, hvc, hvm⟩ := hv.shape2
  have HV := Lib.hid hv
  clear hv
  go_wp2
  go_loopw [12, 13] (fun t i wr => ∃ k : Nat, k ≤ l.length ∧ i = .int .i64 k ∧ t = .bool (prun h la l m k).on ∧ Below w.heap.size w wr ∧ (∀ p, wr.cell? p = W5.cell? p)) (fun _ i _ => l.length - (intOf i).toNat)
  case atStart => exact ⟨0, Nat.zero_le _, rfl, rfl, hb5, fun _ => rfl⟩
  case round =>
    obtain ⟨k, hk, rfl, rfl, hbw, hce⟩ := hrel
    by_cases hlt : k < l.length
    · obtain ⟨z, hz⟩ : ∃ z, (alarms h la l m)[k]? = some z := ⟨_, alarms_at h la l m k hlt⟩
      obtain ⟨ad, rfl, ha1, ha2⟩ := HV.out.at2 k z hz
      have hzz : z = ((prun h la l m (k + 1)).on, (prun h la l m (k + 1)).now) := Option.some.inj (hz.symm.trans (alarms_at h la l m k hlt))
      rw [hzz] at ha1 ha2
      rw [← hce] at ha1 ha2
      have hon := step_on h la (prun h la l m k) (l.getD k 0) (m.getD k false) hn0.1 (prun_right h la l m k hn0.1)
      have HON := Lib.hid (show (prun h la l m (k + 1)).on = (if (prun h la l m (k + 1)).now = true then true else if la = false ∨ m.getD k false = true then false else (prun h la l m k).on) from hon)
      have ha1' : wr.cell? (ad.add (k * 2)) = some (.bool (if (prun h la l m (k + 1)).now = true then true else if la = false ∨ m.getD k false = true then false else (prun h la l m k).on)) := by rw [ha1]; exact congrArg (fun b => some (Value.bool b)) hon
      have HC := Lib.hid hce
      have ho : ∃ b, (prun h la l m k).on = b := ⟨_, rfl⟩
      obtain ⟨b, hob⟩ := ho
      have HOB := Lib.hid hob
      by_cases hkm : k < m.length
      · obtain ⟨y, hy⟩ : ∃ y, m[k]? = some y := ⟨_, List.getElem?_eq_getElem hkm⟩
        obtain ⟨pd, rfl, hcy⟩ := HM5.out.at1 k (.bool y) (by rw [List.getElem?_map, hy]; rfl)
        rw [← hce] at hcy
        have hyd := getD_lt m k false y hy
        rw [hyd] at ha1' HON
        have hab : (k : Int) < (m.length : Int) := by omega
        clear hz hzz hy hyd hce ha1 hon
        generalize hnw : (prun h la l m (k + 1)).now = nw at *
        rw [hob] at ha1' ⊢
        rw [hob] at HON
        clear hob hnw
        cases nw <;> cases la <;> cases y <;> cases b
        all_goals
          simp only [reduceCtorEq, if_true, if_false, or_true, true_or, or_false, false_or, Bool.false_eq_true] at ha1' HON
          go_wp2
          go_roundw
          case rel => exact ⟨k + 1, by omega, by go_num, by rw [HON.out], hbw, fun p => HC.out p⟩
          case measure => simp [intOf]; omega
      · have hyd := getD_ge m k (by omega)
        rw [hyd] at ha1' HON
        have hab : decide ((k : Int) < (m.length : Int)) = false := by simpa using hkm
        clear hz hzz hyd hce ha1 hon
        generalize hnw : (prun h la l m (k + 1)).now = nw at *
        rw [hob] at ha1' ⊢
        rw [hob] at HON
        clear hob hnw
        cases nw <;> cases la <;> cases b
        all_goals
          simp only [reduceCtorEq, if_true, if_false, or_true, true_or, or_false, false_or, Bool.false_eq_true] at ha1' HON
          go_wp2
          go_roundw
          case rel => exact ⟨k + 1, by omega, by go_num, by rw [HON.out], hbw, fun p => HC.out p⟩
          case measure => simp [intOf]; omega
    · go_wp2
      go_ret
      exact ⟨rfl, hbw⟩
end Go.Proofs.Ytmcjndnecohboaa
