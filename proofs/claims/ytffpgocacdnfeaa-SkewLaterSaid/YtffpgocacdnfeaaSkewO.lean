/- Layer 10: the law of later packets, walked. -/
import Derived.Test.YtffpgocacdnfeaaSkewM
namespace Go.Proofs.Ytffpgocacdnfeaa
open Go.ChangeShapes Go.WideShapes Go.ChangeAt Go.RowKit Go.Deep
set_option linter.unusedVariables false
set_option linter.unusedSimpArgs false

set_option maxRecDepth 100000 in
set_option maxHeartbeats 4000000 in
theorem walk_SkewLater (v : Value) (c : Cf) (e t k : Int) (w : World) (hc : IsConf w v c) (wc : (Lit.int .i64 c.P).wf = true ∧ (Lit.int .i64 c.H).wf = true ∧ (Lit.int .i64 c.C).wf = true ∧ (Lit.int .i64 c.Mn).wf = true ∧ (Lit.int .i64 c.Mx).wf = true ∧ (Lit.int .i64 c.Rho).wf = true ∧ (Lit.int .i64 c.Bd).wf = true ∧ (Lit.int .i64 c.Win).wf = true ∧ (Lit.int .i64 c.St).wf = true)
    (wr : ∀ r ∈ c.rows, ∀ z ∈ r, (Lit.int .i64 z).wf = true)  (w3 : (Lit.int .i64 e).wf = true) (w4 : (Lit.int .i64 t).wf = true) (w5 : (Lit.int .u8 k).wf = true) :
    Calls Try.prog 7 #[v, .int .i64 e, .int .i64 t, .int .u8 k] w fun z w' => z = .returned (.bool true) ∧ Below w.heap.size w w' := by
  have hc0 := hc
  obtain ⟨s, r, rfl, _⟩ := hc0
  clear wr 
  go_enter Try.func7, Try.ntmps7
  have bk := wf_u8 w5
  clear w3 w4 w5 wc
  go_wp2_with fail
  have hb0 : Below w.heap.size w (w.alloc (.cells #[.int .i64 c.P, .int .i64 c.H, .int .i64 c.C, .int .i64 c.Mn, .int .i64 c.Mx, .int .i64 c.Rho, .int .i64 c.Bd, .int .i64 c.Win, .int .i64 c.St, s, r] 25)) := by go_grown
  have HC0 := Lib.hid (hc.below hb0)
  have HB0 := Lib.hid (Blk.new w 25 #[.int .i64 c.P, .int .i64 c.H, .int .i64 c.C, .int .i64 c.Mn, .int .i64 c.Mx, .int .i64 c.Rho, .int .i64 c.Bd, .int .i64 c.Win, .int .i64 c.St, s, r] w.heap.size rfl)
  clear hc
  refine (head_any _).mono ?_
  rintro z w1 ⟨rfl, hk1⟩
  have HC1 := Lib.hid (HC0.out.below hk1)
  have HB1 := Lib.hid (HB0.out.below hk1)
  have hb1 := hb0.trans (hk1.mono hb0.size)
  clear HC0 hk1 hb0 HB0
  have hxB := HB1.out.cells
  have hlB := HB1.out.lt
  go_wp2_with fail
  refine (good_any _ c false 0 0 0 _ HC1.out).mono ?_
  rintro z w2 ⟨rfl, hbx⟩
  have HC2 := Lib.hid (HC1.out.below hbx)
  have hb2 := hb1.trans (hbx.mono hb1.size)
  have HB2 := Lib.hid (HB1.out.below hbx)
  clear hxB hlB HC1 hb1 hbx HB1
  have hxB := HB2.out.cells
  have hlB := HB2.out.lt
  rcases hgd : goodE c false 0 0 0 with _ | _
  · go_wp2
    all_goals
      go_ret
      exact ⟨rfl, hb2⟩
  obtain ⟨hcf, hes⟩ := goodP hgd
  have hcp := confP hcf
  go_wp2_with fail
  refine (time_any _ _).mono ?_
  rintro z w3 ⟨rfl, rfl⟩
  rcases hte : timeB e with _ | _
  · go_wp2
    all_goals
      go_ret
      exact ⟨rfl, hb2⟩
  go_wp2_with fail
  refine (tick_any _ _).mono ?_
  rintro z w3 ⟨rfl, rfl⟩
  rcases htt : tickB t with _ | _
  · go_wp2
    all_goals
      go_ret
      exact ⟨rfl, hb2⟩
  have pe := timeP hte
  have pt := tickP htt
  go_wp2
  go_loop [10, 11] (fun mr i => ∃ j : Nat, (j : Int) ≤ k ∧ i = .int .i64 j ∧ mr = .int .i64 (j * c.P)) (fun _ i => (k - intOf i).toNat)
  case atStart => exact ⟨0, by omega, rfl, by simp⟩
  case round =>
    obtain ⟨j, hj, rfl, rfl⟩ := hrel
    have hj0 : 0 ≤ (j : Int) * c.P := Int.mul_nonneg (by omega) (by omega)
    have hj1 : (j : Int) * c.P ≤ 255 * 1000000 := Int.mul_le_mul (by omega) (by omega) (by omega) (by omega)
    by_cases hlt : (j : Int) < k
    · have HE := Lib.hid (show ((j + 1 : Nat) : Int) * c.P = (j : Int) * c.P + c.P from by rw [Int.natCast_add, Int.add_mul]; omega)
      generalize (j : Int) * c.P = jp at *
      go_wp2
      go_round
      case rel => exact ⟨j + 1, by omega, by go_num, by rw [HE.out]⟩
      case measure => simp [intOf]; omega
    · have hjk : (j : Int) = k := by omega
      have hmk : (j : Int) * c.P = k * c.P := by rw [hjk]
      generalize (j : Int) * c.P = m at *
      have HJ := Lib.hid hjk
      clear hjk
      have m1 : e + m = e + m := rfl
      have PT1 : toldLo c e (t + k) = toldLo c e t + m := by unfold toldLo; rw [show (t + k - 1) * c.P = (t - 1) * c.P + k * c.P from by rw [← Int.add_mul]; congr 1; omega, ← hmk]; omega
      have PT2 : toldHi c e (t + k) = toldHi c e t + m := by unfold toldHi; rw [Int.add_mul, ← hmk]; omega
      have PT3 : toldLo c (e + m) (t + k) = toldLo c e t := by unfold toldLo; rw [show (t + k - 1) * c.P = (t - 1) * c.P + k * c.P from by rw [← Int.add_mul]; congr 1; omega, ← hmk]; omega
      have PT4 : toldHi c (e + m) (t + k) = toldHi c e t := by unfold toldHi; rw [Int.add_mul, ← hmk]; omega
      have tb := told_bd c e t (by omega) (by omega) (by omega) pe pt
      clear m1 hmk
      go_wp2_with fail
      refine (time_any _ _).mono ?_
      rintro z w3 ⟨rfl, rfl⟩
      rcases htm : timeB (e + m) with _ | _
      · go_wp2
        all_goals
          go_ret
          exact ⟨rfl, hb2⟩
      go_wp2_with fail
      refine (tick_any _ _).mono ?_
      rintro z w3 ⟨rfl, rfl⟩
      rcases htk : tickB (t + k) with _ | _
      · go_wp2
        all_goals
          go_ret
          exact ⟨rfl, hb2⟩
      have pe2 := timeP htm
      have pt2 := tickP htk
      go_wp2_with fail
      refine (told_any _ c e t _ HC2.out (by omega) (by omega) (by omega) pe pt).mono ?_
      rintro z w3 ⟨rfl, hbx⟩
      have HC3 := Lib.hid (HC2.out.below hbx)
      have hb3 := hb2.trans (hbx.mono hb2.size)
      have HB3 := Lib.hid (HB2.out.below hbx)
      clear hxB hlB HC2 hb2 hbx HB2
      have hxB := HB3.out.cells
      have hlB := HB3.out.lt
      go_wp2_with fail
      refine (told_any _ c e (t + k) _ HC3.out (by omega) (by omega) (by omega) pe pt2).mono ?_
      rintro z w4 ⟨rfl, hbx⟩
      have HC4 := Lib.hid (HC3.out.below hbx)
      have hb4 := hb3.trans (hbx.mono hb3.size)
      have HB4 := Lib.hid (HB3.out.below hbx)
      clear hxB hlB HC3 hb3 hbx HB3
      have hxB := HB4.out.cells
      have hlB := HB4.out.lt
      go_wp2_with fail
      refine (told_any _ c (e + m) (t + k) _ HC4.out (by omega) (by omega) (by omega) pe2 pt2).mono ?_
      rintro z w5 ⟨rfl, hbx⟩
      have HC5 := Lib.hid (HC4.out.below hbx)
      have hb5 := hb4.trans (hbx.mono hb4.size)
      have HB5 := Lib.hid (HB4.out.below hbx)
      clear hxB hlB HC4 hb4 hbx HB4
      have hxB := HB5.out.cells
      have hlB := HB5.out.lt
      simp only [PT1, PT2, PT3, PT4]
      go_wp2
      all_goals
        go_ret
        refine ⟨by simp, ?_⟩
        first | exact hb5 | exact hb5.alloc hb5.size _
end Go.Proofs.Ytffpgocacdnfeaa
