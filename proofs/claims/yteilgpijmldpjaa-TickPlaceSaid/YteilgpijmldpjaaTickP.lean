/- Layer 11: the law of places, walked. -/
import Derived.Test.YteilgpijmldpjaaTickN
namespace Go.Proofs.Yteilgpijmldpjaa
open Go.ChangeShapes Go.WideShapes Go.ChangeAt Go.RowKit
set_option linter.unusedVariables false
set_option linter.unusedSimpArgs false

set_option maxHeartbeats 2000000 in
theorem walk_TickPlace (v : Value) (c : Cf) (lo hi at_ : Int) (w : World) (hc : IsConf w v c) (wc : (Lit.int .i64 c.P).wf = true ∧ (Lit.int .i64 c.H).wf = true ∧ (Lit.int .i64 c.C).wf = true ∧ (Lit.int .i64 c.Mn).wf = true ∧ (Lit.int .i64 c.Mx).wf = true ∧ (Lit.int .i64 c.Rho).wf = true ∧ (Lit.int .i64 c.Bd).wf = true ∧ (Lit.int .i64 c.Win).wf = true ∧ (Lit.int .i64 c.St).wf = true)
    (wr : ∀ r ∈ c.rows, ∀ z ∈ r, (Lit.int .i64 z).wf = true) (w3 : (Lit.int .i64 lo).wf = true) (w4 : (Lit.int .i64 hi).wf = true) (w5 : (Lit.int .u16 at_).wf = true) :
    Calls Try.prog 5 #[v, .int .i64 lo, .int .i64 hi, .int .u16 at_] w fun e w' => e = .returned (.bool true) ∧ Below w.heap.size w w' := by
  have hc0 := hc
  obtain ⟨s, r, rfl, _⟩ := hc0
  clear wr
  go_enter Try.func5, Try.ntmps5
  have bhi := bounds_i64 w4
  have blo := bounds_i64 w3
  have bat := bounds_u16 w5
  have bbd := bounds_i64 wc.2.2.2.2.2.2.1
  clear w3 w4 w5 wc
  go_wp2_with fail
  have hb0 : Below w.heap.size w (w.alloc (.cells #[.int .i64 c.P, .int .i64 c.H, .int .i64 c.C, .int .i64 c.Mn, .int .i64 c.Mx, .int .i64 c.Rho, .int .i64 c.Bd, .int .i64 c.Win, .int .i64 c.St, s, r] 25)) := (Below.refl _ _).alloc (Nat.le_refl _) _
  have HC0 := Lib.hid (hc.below hb0)
  have HB0 := Lib.hid (Blk.new w 25 #[.int .i64 c.P, .int .i64 c.H, .int .i64 c.C, .int .i64 c.Mn, .int .i64 c.Mx, .int .i64 c.Rho, .int .i64 c.Bd, .int .i64 c.Win, .int .i64 c.St, s, r] w.heap.size rfl)
  clear hc
  refine (head_any _).mono ?_
  rintro e w1 ⟨rfl, hk1⟩
  have HC1 := Lib.hid (HC0.out.below hk1)
  have HB1 := Lib.hid (HB0.out.below hk1)
  have hb1 := hb0.trans (hk1.mono (by simp))
  clear HC0 HB0 hk1 hb0
  have hx := HB1.out.cells
  go_wp2_with fail
  refine (great_any _ c _ HC1.out).mono ?_
  rintro e w2 ⟨rfl, hk2⟩
  have HC2 := Lib.hid (HC1.out.below hk2)
  have HB2 := Lib.hid (HB1.out.below hk2)
  have hb2 := hb1.trans (hk2.mono hb1.size)
  clear HC1 HB1 hk2 hx
  have hx := HB2.out.cells
  rcases hgr : greatB c.rows with _ | _
  case true =>
    go_wp2
    all_goals
      go_ret
      exact ⟨rfl, hb2⟩
  go_wp2_with fail
  refine (rright_any _ c _ HC2.out).mono ?_
  rintro e w3 ⟨rfl, hk3⟩
  have HC3 := Lib.hid (HC2.out.below hk3)
  have HB3 := Lib.hid (HB2.out.below hk3)
  have hb3 := hb2.trans (hk3.mono hb2.size)
  clear HC2 HB2 hk3 hx
  have hx := HB3.out.cells
  rcases hcf : confO c with _ | _
  · go_wp2
    all_goals
      go_ret
      exact ⟨rfl, hb3⟩
  have hcp := confP hcf
  go_wp2_with fail
  refine (timed_any _ _).mono ?_
  rintro e w4 ⟨rfl, rfl⟩
  rcases hlo : timedB lo with _ | _
  · go_wp2
    all_goals
      go_ret
      exact ⟨rfl, hb3⟩
  go_wp2_with fail
  refine (timed_any _ _).mono ?_
  rintro e w4 ⟨rfl, rfl⟩
  rcases hhi : timedB hi with _ | _
  · go_wp2
    all_goals
      go_ret
      exact ⟨rfl, hb3⟩
  have plo := timedP hlo
  have phi := timedP hhi
  by_cases hlh : hi < lo
  · go_wp2
    all_goals
      go_ret
      exact ⟨rfl, hb3⟩
  go_wp2_with fail
  refine (timed_any _ _).mono ?_
  rintro e w4 ⟨rfl, rfl⟩
  rcases hll : timedB (lo - c.Bd) with _ | _
  · go_wp2
    all_goals
      go_ret
      exact ⟨rfl, hb3⟩
  go_wp2_with fail
  refine (timed_any _ _).mono ?_
  rintro e w4 ⟨rfl, rfl⟩
  rcases hhh : timedB (hi + c.Bd) with _ | _
  · go_wp2
    all_goals
      go_ret
      exact ⟨rfl, hb3⟩
  have pll := timedP hll
  have phh := timedP hhh
  have m0 := Int.emod_nonneg at_ (b := hi - lo + 1) (by omega)
  have m1 := Int.emod_lt_of_pos at_ (b := hi - lo + 1) (by omega)
  have hmb := mid_bd lo hi (by omega) (by omega) (by omega) (by omega)
  have HN := Lib.hid (show hi - lo ≤ 2 * c.Bd → tk c.P (lo + at_ % (hi - lo + 1) - c.Bd) ≤ tk c.P (mid lo hi) ∧ tk c.P (mid lo hi) ≤ tk c.P (lo + at_ % (hi - lo + 1) + c.Bd) from fun h => by
    have := mid_near lo hi c.Bd (lo + at_ % (hi - lo + 1)) h (by omega) (by omega)
    exact ⟨tk_mono _ _ _ (by omega) this.1, tk_mono _ _ _ (by omega) this.2⟩)
  have hpd : placeO c.Bd lo hi = decide (hi - lo ≤ 2 * c.Bd) := rfl
  have HPN := Lib.hid (show placeN c.P c.Bd lo hi = if placeO c.Bd lo hi = true then tk c.P (mid lo hi) else 0 from rfl)
  have HPD := Lib.hid hpd
  clear hpd
  go_wp2_with fail
  refine (place_any _ c _ _ _ HC3.out (by omega) (by omega) (by omega) (by omega) (by omega) (by omega) (by omega) (by omega)).mono ?_
  rintro e w4 ⟨rfl, hk4⟩
  have HC4 := Lib.hid (HC3.out.below hk4)
  have HB4 := Lib.hid (HB3.out.below hk4)
  have hb4 := hb3.trans (hk4.mono hb3.size)
  clear HC3 HB3 hk4 hx
  have hx := HB4.out.cells
  by_cases ho : hi - lo ≤ 2 * c.Bd
  · have po : placeO c.Bd lo hi = true := by rw [HPD.out]; exact decide_eq_true ho
    have pn : placeN c.P c.Bd lo hi = tk c.P (mid lo hi) := by rw [HPN.out, if_pos po]
    obtain ⟨n1, n2⟩ := HN.out ho
    go_wp2_with fail
    refine (near_any _ _ _ (by omega) (by omega) (by omega) (by omega)).mono ?_
    rintro e w5 ⟨rfl, hk5⟩
    have HC5 := Lib.hid (HC4.out.below hk5)
    have HB5 := Lib.hid (HB4.out.below hk5)
    have hb5 := hb4.trans (hk5.mono hb4.size)
    clear HC4 HB4 hk5 hx
    have hx := HB5.out.cells
    go_wp2_with fail
    refine (near_any _ _ _ (by omega) (by omega) (by omega) (by omega)).mono ?_
    rintro e w6 ⟨rfl, hk6⟩
    have HC6 := Lib.hid (HC5.out.below hk6)
    have HB6 := Lib.hid (HB5.out.below hk6)
    have hb6 := hb5.trans (hk6.mono hb5.size)
    clear HC5 HB5 hk6 hx
    have hx := HB6.out.cells
    go_wp2
    all_goals
      go_ret
      exact ⟨by simp [n1, n2], hb6⟩

  · have po : placeO c.Bd lo hi = false := by rw [HPD.out]; exact decide_eq_false ho
    have pn : placeN c.P c.Bd lo hi = 0 := by rw [HPN.out, po]; rfl
    go_wp2
    all_goals
      go_ret
      exact ⟨by simp, hb4⟩


end Go.Proofs.Yteilgpijmldpjaa
