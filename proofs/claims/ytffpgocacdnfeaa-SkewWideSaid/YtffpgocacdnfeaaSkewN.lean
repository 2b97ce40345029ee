/- Layer 10: laws of looking, walked. -/
import Derived.Test.YtffpgocacdnfeaaSkewM
namespace Go.Proofs.Ytffpgocacdnfeaa
open Go.ChangeShapes Go.WideShapes Go.ChangeAt Go.RowKit Go.Deep
set_option linter.unusedVariables false
set_option linter.unusedSimpArgs false

theorem told_bd2 (c : Cf) (e t : Int) (hp : 1 ≤ c.P ∧ c.P ≤ 1000000) (hm : 0 ≤ c.Mn ∧ c.Mn ≤ c.Mx) (hx : c.Mx ≤ 1000000000) (he : 0 ≤ e ∧ e ≤ 2199023255552) (ht : 0 ≤ t ∧ t ≤ 1073741824) :
    -1125899906842624 ≤ toldLo c e t ∧ toldHi c e t ≤ 1125899906842624 ∧ toldHi c e t - toldLo c e t = c.P + c.Mx - c.Mn - 1 := by
  have b1 : -1000000 ≤ (t - 1) * c.P := by
    rcases (by omega : t = 0 ∨ 1 ≤ t) with h0 | h0
    · subst h0; omega
    · have a1 := Int.mul_nonneg (show 0 ≤ t - 1 by omega) (show 0 ≤ c.P by omega)
      omega
  have b2 : t * c.P ≤ 1073741824000000 := by
    have a2 : t * c.P ≤ 1073741824 * 1000000 := Int.mul_le_mul (by omega) (by omega) (by omega) (by omega)
    omega
  have b3 : (t - 1) * c.P = t * c.P - c.P := by rw [Int.sub_mul]; omega
  unfold toldLo toldHi
  omega

theorem look_est (c : Cf) (on : Bool) (a lo hi e t : Int) (hcp : (1 ≤ c.P ∧ c.P ≤ 1000000) ∧ (0 ≤ c.Mn ∧ c.Mn ≤ c.Mx ∧ c.Mx ≤ 1000000000 ∧ 0 ≤ c.Rho)) (hes : estO on a lo hi = true) (he : 0 ≤ e ∧ e ≤ 2199023255552) (ht : 0 ≤ t ∧ t ≤ 1073741824) :
    estO true e (lookLo c on a lo hi e t) (lookHi c on a lo hi e t) = true ∧ lookLo c on a lo hi e t ≤ lookHi c on a lo hi e t ∧ toldLo c e t ≤ lookLo c on a lo hi e t ∧ lookHi c on a lo hi e t ≤ toldHi c e t := by
  have hb := told_bd2 c e t hcp.1 ⟨hcp.2.1, hcp.2.2.1⟩ hcp.2.2.2.1 he ht
  have hd := drf_nonneg c.Rho (e - a) hcp.2.2.2.2
  have key : lookLo c on a lo hi e t ≤ lookHi c on a lo hi e t ∧ toldLo c e t ≤ lookLo c on a lo hi e t ∧ lookHi c on a lo hi e t ≤ toldHi c e t := by
    cases on
    · have e2 : lookLo c false a lo hi e t = toldLo c e t := rfl
      have e3 : lookHi c false a lo hi e t = toldHi c e t := rfl
      rw [e2, e3]
      omega
    · unfold lookLo lookHi
      by_cases ho : lookO c true a lo hi e t = true
      · rw [if_pos ⟨rfl, ho⟩, if_pos ⟨rfl, ho⟩]
        unfold lookO at ho
        simp only [Bool.not_true, Bool.false_or, decide_eq_true_eq] at ho
        omega
      · rw [if_neg (fun h => ho h.2), if_neg (fun h => ho h.2)]
        omega
  refine ⟨?_, key⟩
  unfold estO
  simp only [if_true, decide_eq_true_eq]
  omega

set_option maxRecDepth 100000 in
set_option maxHeartbeats 4000000 in
theorem walk_SkewAgain (v : Value) (c : Cf) (on : Bool) (a lo hi : Int) (e t : Int) (w : World) (hc : IsConf w v c) (wc : (Lit.int .i64 c.P).wf = true ∧ (Lit.int .i64 c.H).wf = true ∧ (Lit.int .i64 c.C).wf = true ∧ (Lit.int .i64 c.Mn).wf = true ∧ (Lit.int .i64 c.Mx).wf = true ∧ (Lit.int .i64 c.Rho).wf = true ∧ (Lit.int .i64 c.Bd).wf = true ∧ (Lit.int .i64 c.Win).wf = true ∧ (Lit.int .i64 c.St).wf = true)
    (wr : ∀ r ∈ c.rows, ∀ z ∈ r, (Lit.int .i64 z).wf = true) (we : (Lit.int .i64 a).wf = true ∧ (Lit.int .i64 lo).wf = true ∧ (Lit.int .i64 hi).wf = true) (w3 : (Lit.int .i64 e).wf = true) (w4 : (Lit.int .i64 t).wf = true) :
    Calls Try.prog 5 #[v, .agg #[.bool on, .int .i64 a, .int .i64 lo, .int .i64 hi], .int .i64 e, .int .i64 t] w fun z w' => z = .returned (.bool true) ∧ Below w.heap.size w w' := by
  have hc0 := hc
  obtain ⟨s, r, rfl, _⟩ := hc0
  clear wr we
  go_enter Try.func5, Try.ntmps5
  clear w3 w4 wc
  go_wp2_with fail
  have hb0 : Below w.heap.size w ((w.alloc (.cells #[.int .i64 c.P, .int .i64 c.H, .int .i64 c.C, .int .i64 c.Mn, .int .i64 c.Mx, .int .i64 c.Rho, .int .i64 c.Bd, .int .i64 c.Win, .int .i64 c.St, s, r] 25)).alloc (.cells #[.bool on, .int .i64 a, .int .i64 lo, .int .i64 hi] 31)) := by go_grown
  have HC0 := Lib.hid (hc.below hb0)
  have HB0 := Lib.hid ((Blk.new w 25 #[.int .i64 c.P, .int .i64 c.H, .int .i64 c.C, .int .i64 c.Mn, .int .i64 c.Mx, .int .i64 c.Rho, .int .i64 c.Bd, .int .i64 c.Win, .int .i64 c.St, s, r] w.heap.size rfl).below ((Below.refl _ (w.alloc (.cells #[.int .i64 c.P, .int .i64 c.H, .int .i64 c.C, .int .i64 c.Mn, .int .i64 c.Mx, .int .i64 c.Rho, .int .i64 c.Bd, .int .i64 c.Win, .int .i64 c.St, s, r] 25))).alloc (Nat.le_refl _) (.cells #[.bool on, .int .i64 a, .int .i64 lo, .int .i64 hi] 31)))
  have HS0 := Lib.hid (Blk.new (w.alloc (.cells #[.int .i64 c.P, .int .i64 c.H, .int .i64 c.C, .int .i64 c.Mn, .int .i64 c.Mx, .int .i64 c.Rho, .int .i64 c.Bd, .int .i64 c.Win, .int .i64 c.St, s, r] 25)) 31 #[.bool on, .int .i64 a, .int .i64 lo, .int .i64 hi] (w.heap.size + 1) (by simp))
  clear hc
  refine (head_any _).mono ?_
  rintro z w1 ⟨rfl, hk1⟩
  have HC1 := Lib.hid (HC0.out.below hk1)
  have HB1 := Lib.hid (HB0.out.below hk1)
  have HS1 := Lib.hid (HS0.out.below hk1)
  have hb1 := hb0.trans (hk1.mono hb0.size)
  clear HC0 hk1 hb0 HB0 HS0
  have hxB := HB1.out.cells
  have hlB := HB1.out.lt
  have hxS := HS1.out.cells
  have hlS := HS1.out.lt
  go_wp2_with fail
  refine (good_any _ c on a lo hi _ HC1.out).mono ?_
  rintro z w2 ⟨rfl, hbx⟩
  have HC2 := Lib.hid (HC1.out.below hbx)
  have hb2 := hb1.trans (hbx.mono hb1.size)
  have HB2 := Lib.hid (HB1.out.below hbx)
  have HS2 := Lib.hid (HS1.out.below hbx)
  clear hxB hlB hxS hlS HC1 hb1 hbx HB1 HS1
  have hxB := HB2.out.cells
  have hlB := HB2.out.lt
  have hxS := HS2.out.cells
  have hlS := HS2.out.lt
  rcases hgd : goodE c on a lo hi with _ | _
  · go_wp2
    all_goals
      go_ret
      exact ⟨rfl, hb2⟩
  obtain ⟨hcf, hes⟩ := goodP hgd
  have hcp := confP hcf
  go_wp2_with fail
  refine (time_any _ _).mono ?_
  rintro z w3 ⟨rfl, rfl⟩
  rcases hte : timeB e with _ | _
  · go_wp2
    all_goals
      go_ret
      exact ⟨rfl, hb2⟩
  go_wp2_with fail
  refine (tick_any _ _).mono ?_
  rintro z w3 ⟨rfl, rfl⟩
  rcases htt : tickB t with _ | _
  · go_wp2
    all_goals
      go_ret
      exact ⟨rfl, hb2⟩
  have pe := timeP hte
  have pt := tickP htt
  have HES := Lib.hid hes
  have HON : Hid (on = true → 0 ≤ a ∧ a ≤ 2199023255552 ∧ lo ≤ hi ∧ -1125899906842624 ≤ lo ∧ hi ≤ 1125899906842624) := Lib.hid (fun h => by subst h; exact estP hes)
  have HLE := Lib.hid (look_est c on a lo hi e t ⟨⟨by omega, by omega⟩, by omega, by omega, by omega, by omega⟩ hes pe pt)
  clear hes
  go_wp2_with fail
  refine (look_any _ c on a lo hi e t _ HC2.out (by omega) (by omega) (by omega) (by omega) pe pt (fun h => by have := HON.out h; omega) (fun h => by have := HON.out h; omega) (fun h => by have := HON.out h; omega)).mono ?_
  rintro z w3 ⟨rfl, hbx⟩
  have HC3 := Lib.hid (HC2.out.below hbx)
  have hb3 := hb2.trans (hbx.mono hb2.size)
  have HB3 := Lib.hid (HB2.out.below hbx)
  have HS3 := Lib.hid (HS2.out.below hbx)
  clear hxB hlB hxS hlS HC2 hb2 hbx HB2 HS2
  have hxB := HB3.out.cells
  have hlB := HB3.out.lt
  have hxS := HS3.out.cells
  have hlS := HS3.out.lt
  obtain ⟨q1, q2, q3, q4⟩ := HLE.out
  have q5 := estP q1
  have z1 : drf c.Rho (e - e) = 0 := by rw [Int.sub_self]; exact drf_zero _
  generalize hLL : lookLo c on a lo hi e t = ll at *
  generalize hLH : lookHi c on a lo hi e t = lh at *
  have r1 : lookO c true e ll lh e t = true := by unfold lookO; rw [z1]; simp only [Bool.not_true, Bool.false_or, decide_eq_true_eq]; omega
  have r2 : lookLo c true e ll lh e t = ll := by unfold lookLo; rw [if_pos ⟨rfl, r1⟩, z1]; omega
  have r3 : lookHi c true e ll lh e t = lh := by unfold lookHi; rw [if_pos ⟨rfl, r1⟩, z1]; omega
  clear hLL hLH HLE
  go_wp2_with fail
  have HN := Lib.hid (Blk.new w3 31 #[.bool true, .int .i64 e, .int .i64 ll, .int .i64 lh] w3.heap.size rfl)
  have hal : ∀ o, Below w3.heap.size w3 (w3.alloc o) := fun o => (Below.refl _ _).alloc (Nat.le_refl _) _
  refine (rrightE_any _ _ _ _ _).mono ?_
  rintro z w4 ⟨rfl, hk⟩
  have hbx : Below w3.heap.size w3 w4 := (hal _).trans (hk.mono (by simp))
  have HN4 := Lib.hid (HN.out.below hk)
  have HC4 := Lib.hid (HC3.out.below hbx)
  have hb4 := hb3.trans (hbx.mono hb3.size)
  have HB4 := Lib.hid (HB3.out.below hbx)
  have HS4 := Lib.hid (HS3.out.below hbx)
  clear hxB hlB hxS hlS HC3 hb3 hbx HB3 HS3 HN hal hk
  generalize w3.heap.size = bN at *
  have hxB := HB4.out.cells
  have hlB := HB4.out.lt
  have hxS := HS4.out.cells
  have hlS := HS4.out.lt
  have hxN := HN4.out.cells
  have hlN := HN4.out.lt
  simp only [q1]
  go_wp2_with fail
  refine (look_any _ c true e ll lh e t _ HC4.out (by omega) (by omega) (by omega) (by omega) pe pt (fun _ => by omega) (fun _ => by omega) (fun _ => by omega)).mono ?_
  rintro z w5 ⟨rfl, hbx⟩
  have HC5 := Lib.hid (HC4.out.below hbx)
  have hb5 := hb4.trans (hbx.mono hb4.size)
  have HB5 := Lib.hid (HB4.out.below hbx)
  have HS5 := Lib.hid (HS4.out.below hbx)
  have HN5 := Lib.hid (HN4.out.below hbx)
  clear hxB hlB hxS hlS hxN hlN HC4 hb4 hbx HB4 HS4 HN4
  have hxB := HB5.out.cells
  have hlB := HB5.out.lt
  have hxS := HS5.out.cells
  have hlS := HS5.out.lt
  have hxN := HN5.out.cells
  have hlN := HN5.out.lt
  simp only [r1, r2, r3]
  go_wp2
  all_goals
    go_ret
    refine ⟨by simp, ?_⟩
    first | exact hb5 | exact hb5.alloc hb5.size _

end Go.Proofs.Ytffpgocacdnfeaa
