/- Layer 10: the law of what is told, walked. -/
import Derived.Test.YtffpgocacdnfeaaSkewN
namespace Go.Proofs.Ytffpgocacdnfeaa
open Go.ChangeShapes Go.WideShapes Go.ChangeAt Go.RowKit Go.Deep
set_option linter.unusedVariables false
set_option linter.unusedSimpArgs false

set_option maxRecDepth 100000 in
set_option maxHeartbeats 4000000 in
theorem walk_SkewNarrow (v : Value) (c : Cf) (on : Bool) (a lo hi : Int) (e t : Int) (w : World) (hc : IsConf w v c) (wc : (Lit.int .i64 c.P).wf = true ∧ (Lit.int .i64 c.H).wf = true ∧ (Lit.int .i64 c.C).wf = true ∧ (Lit.int .i64 c.Mn).wf = true ∧ (Lit.int .i64 c.Mx).wf = true ∧ (Lit.int .i64 c.Rho).wf = true ∧ (Lit.int .i64 c.Bd).wf = true ∧ (Lit.int .i64 c.Win).wf = true ∧ (Lit.int .i64 c.St).wf = true)
    (wr : ∀ r ∈ c.rows, ∀ z ∈ r, (Lit.int .i64 z).wf = true) (we : (Lit.int .i64 a).wf = true ∧ (Lit.int .i64 lo).wf = true ∧ (Lit.int .i64 hi).wf = true) (w3 : (Lit.int .i64 e).wf = true) (w4 : (Lit.int .i64 t).wf = true) :
    Calls Try.prog 4 #[v, .agg #[.bool on, .int .i64 a, .int .i64 lo, .int .i64 hi], .int .i64 e, .int .i64 t] w fun z w' => z = .returned (.bool true) ∧ Below w.heap.size w w' := by
  have hc0 := hc
  obtain ⟨s, r, rfl, _⟩ := hc0
  clear wr we
  go_enter Try.func4, Try.ntmps4
  clear w3 w4 wc
  go_wp2_with fail
  have hb0 : Below w.heap.size w ((w.alloc (.cells #[.int .i64 c.P, .int .i64 c.H, .int .i64 c.C, .int .i64 c.Mn, .int .i64 c.Mx, .int .i64 c.Rho, .int .i64 c.Bd, .int .i64 c.Win, .int .i64 c.St, s, r] 25)).alloc (.cells #[.bool on, .int .i64 a, .int .i64 lo, .int .i64 hi] 31)) := by go_grown
  have HC0 := Lib.hid (hc.below hb0)
  have HB0 := Lib.hid ((Blk.new w 25 #[.int .i64 c.P, .int .i64 c.H, .int .i64 c.C, .int .i64 c.Mn, .int .i64 c.Mx, .int .i64 c.Rho, .int .i64 c.Bd, .int .i64 c.Win, .int .i64 c.St, s, r] w.heap.size rfl).below ((Below.refl _ (w.alloc (.cells #[.int .i64 c.P, .int .i64 c.H, .int .i64 c.C, .int .i64 c.Mn, .int .i64 c.Mx, .int .i64 c.Rho, .int .i64 c.Bd, .int .i64 c.Win, .int .i64 c.St, s, r] 25))).alloc (Nat.le_refl _) (.cells #[.bool on, .int .i64 a, .int .i64 lo, .int .i64 hi] 31)))
  have HS0 := Lib.hid (Blk.new (w.alloc (.cells #[.int .i64 c.P, .int .i64 c.H, .int .i64 c.C, .int .i64 c.Mn, .int .i64 c.Mx, .int .i64 c.Rho, .int .i64 c.Bd, .int .i64 c.Win, .int .i64 c.St, s, r] 25)) 31 #[.bool on, .int .i64 a, .int .i64 lo, .int .i64 hi] (w.heap.size + 1) (by simp))
  clear hc
  refine (head_any _).mono ?_
  rintro z w1 ⟨rfl, hk1⟩
  have HC1 := Lib.hid (HC0.out.below hk1)
  have HB1 := Lib.hid (HB0.out.below hk1)
  have HS1 := Lib.hid (HS0.out.below hk1)
  have hb1 := hb0.trans (hk1.mono hb0.size)
  clear HC0 hk1 hb0 HB0 HS0
  have hxB := HB1.out.cells
  have hlB := HB1.out.lt
  have hxS := HS1.out.cells
  have hlS := HS1.out.lt
  go_wp2_with fail
  refine (good_any _ c on a lo hi _ HC1.out).mono ?_
  rintro z w2 ⟨rfl, hbx⟩
  have HC2 := Lib.hid (HC1.out.below hbx)
  have hb2 := hb1.trans (hbx.mono hb1.size)
  have HB2 := Lib.hid (HB1.out.below hbx)
  have HS2 := Lib.hid (HS1.out.below hbx)
  clear hxB hlB hxS hlS HC1 hb1 hbx HB1 HS1
  have hxB := HB2.out.cells
  have hlB := HB2.out.lt
  have hxS := HS2.out.cells
  have hlS := HS2.out.lt
  rcases hgd : goodE c on a lo hi with _ | _
  · go_wp2
    all_goals
      go_ret
      exact ⟨rfl, hb2⟩
  obtain ⟨hcf, hes⟩ := goodP hgd
  have hcp := confP hcf
  go_wp2_with fail
  refine (time_any _ _).mono ?_
  rintro z w3 ⟨rfl, rfl⟩
  rcases hte : timeB e with _ | _
  · go_wp2
    all_goals
      go_ret
      exact ⟨rfl, hb2⟩
  go_wp2_with fail
  refine (tick_any _ _).mono ?_
  rintro z w3 ⟨rfl, rfl⟩
  rcases htt : tickB t with _ | _
  · go_wp2
    all_goals
      go_ret
      exact ⟨rfl, hb2⟩
  have pe := timeP hte
  have pt := tickP htt
  have HES := Lib.hid hes
  have HON : Hid (on = true → 0 ≤ a ∧ a ≤ 2199023255552 ∧ lo ≤ hi ∧ -1125899906842624 ≤ lo ∧ hi ≤ 1125899906842624) := Lib.hid (fun h => by subst h; exact estP hes)
  have HLE := Lib.hid (look_est c on a lo hi e t ⟨⟨by omega, by omega⟩, by omega, by omega, by omega, by omega⟩ hes pe pt)
  clear hes
  have HTB := Lib.hid (told_bd c e t (by omega) (by omega) (by omega) pe pt)
  have HT2 := Lib.hid (told_bd2 c e t (by omega) (by omega) (by omega) pe pt)
  go_wp2_with fail
  refine (told_any _ c e t _ HC2.out (by omega) (by omega) (by omega) pe pt).mono ?_
  rintro z w3 ⟨rfl, hbx⟩
  have HC3 := Lib.hid (HC2.out.below hbx)
  have hb3 := hb2.trans (hbx.mono hb2.size)
  have HB3 := Lib.hid (HB2.out.below hbx)
  have HS3 := Lib.hid (HS2.out.below hbx)
  clear hxB hlB hxS hlS HC2 hb2 hbx HB2 HS2
  have hxB := HB3.out.cells
  have hlB := HB3.out.lt
  have hxS := HS3.out.cells
  have hlS := HS3.out.lt
  go_wp2_with fail
  refine (look_any _ c on a lo hi e t _ HC3.out (by omega) (by omega) (by omega) (by omega) pe pt (fun h => by have := HON.out h; omega) (fun h => by have := HON.out h; omega) (fun h => by have := HON.out h; omega)).mono ?_
  rintro z w4 ⟨rfl, hbx⟩
  have HC4 := Lib.hid (HC3.out.below hbx)
  have hb4 := hb3.trans (hbx.mono hb3.size)
  have HB4 := Lib.hid (HB3.out.below hbx)
  have HS4 := Lib.hid (HS3.out.below hbx)
  clear hxB hlB hxS hlS HC3 hb3 hbx HB3 HS3
  have hxB := HB4.out.cells
  have hlB := HB4.out.lt
  have hxS := HS4.out.cells
  have hlS := HS4.out.lt
  obtain ⟨q1, q2, q3, q4⟩ := HLE.out
  have q5 := estP q1
  obtain ⟨⟨tb1, tb2⟩, tb3, tb4⟩ := HTB.out
  have tdiff := HT2.out.2.2
  have k1 : (toldHi c e t - toldLo c e t != c.P + c.Mx - c.Mn - 1) = false := by rw [tdiff]; simp
  cases on
  · have e1 : lookO c false a lo hi e t = true := rfl
    have e2 : lookLo c false a lo hi e t = toldLo c e t := rfl
    have e3 : lookHi c false a lo hi e t = toldHi c e t := rfl
    simp only [e2, e3] at q2 q3 q4 q5
    simp only [e1, e2, e3]
    clear q1 HLE HTB HT2
    generalize toldLo c e t = tl at *
    generalize toldHi c e t = th at *
    clear e1 e2 e3
    go_wp2_with fail
    have HN := Lib.hid (Blk.new w4 31 #[.bool true, .int .i64 e, .int .i64 tl, .int .i64 th] w4.heap.size rfl)
    have hal : ∀ o, Below w4.heap.size w4 (w4.alloc o) := fun o => (Below.refl _ _).alloc (Nat.le_refl _) _
    refine (atf_off _ c a lo hi e _ (HC4.out.below (hal _))).mono ?_
    rintro z w5 ⟨rfl, hk⟩
    have hbx : Below w4.heap.size w4 w5 := (hal _).trans (hk.mono (by simp))
    have HN5 := Lib.hid (HN.out.below hk)
    have HC5 := Lib.hid (HC4.out.below hbx)
    have hb5 := hb4.trans (hbx.mono hb4.size)
    have HB5 := Lib.hid (HB4.out.below hbx)
    have HS5 := Lib.hid (HS4.out.below hbx)
    clear hxB hlB hxS hlS HC4 hb4 hbx HB4 HS4 HN hal hk
    generalize w4.heap.size = bN at *
    have hxB := HB5.out.cells
    have hlB := HB5.out.lt
    have hxS := HS5.out.cells
    have hlS := HS5.out.lt
    have hxN := HN5.out.cells
    have hlN := HN5.out.lt
    go_wp2
    all_goals
      go_ret
      refine ⟨by simp, ?_⟩
      first | exact hb5 | exact hb5.alloc hb5.size _

  · have hon := HON.out rfl
    have hd0 := drf_nonneg c.Rho (e - a) (by omega)
    have hd1 := drf_size c.Rho (e - a) (by omega) (by omega) (by omega) (by omega)
    have LO := Lib.hid (show lookO c true a lo hi e t = decide (max (lo - drf c.Rho (e - a)) (toldLo c e t) ≤ min (hi + drf c.Rho (e - a)) (toldHi c e t)) from rfl)
    have LL := Lib.hid (show lookLo c true a lo hi e t = if true = true ∧ lookO c true a lo hi e t = true then max (lo - drf c.Rho (e - a)) (toldLo c e t) else toldLo c e t from rfl)
    have LH := Lib.hid (show lookHi c true a lo hi e t = if true = true ∧ lookO c true a lo hi e t = true then min (hi + drf c.Rho (e - a)) (toldHi c e t) else toldHi c e t from rfl)
    have tle : toldLo c e t ≤ toldHi c e t := by omega
    clear q1 HLE HTB HT2 HON
    generalize toldLo c e t = tl at *
    generalize toldHi c e t = th at *
    generalize hLL : lookLo c true a lo hi e t = ll at *
    generalize hLH : lookHi c true a lo hi e t = lh at *
    generalize hLO : lookO c true a lo hi e t = lo_ at *
    clear hLL hLH hLO
    go_wp2_with fail
    have HN := Lib.hid (Blk.new w4 31 #[.bool true, .int .i64 e, .int .i64 ll, .int .i64 lh] w4.heap.size rfl)
    have hal : ∀ o, Below w4.heap.size w4 (w4.alloc o) := fun o => (Below.refl _ _).alloc (Nat.le_refl _) _
    refine (atf_on _ c a lo hi e _ (HC4.out.below (hal _)) (by omega) pe (by omega) (by omega) (by omega)).mono ?_
    rintro z w5 ⟨rfl, hk⟩
    have hbx : Below w4.heap.size w4 w5 := (hal _).trans (hk.mono (by simp))
    have HN5 := Lib.hid (HN.out.below hk)
    have HC5 := Lib.hid (HC4.out.below hbx)
    have hb5 := hb4.trans (hbx.mono hb4.size)
    have HB5 := Lib.hid (HB4.out.below hbx)
    have HS5 := Lib.hid (HS4.out.below hbx)
    clear hxB hlB hxS hlS HC4 hb4 hbx HB4 HS4 HN hal hk
    generalize w4.heap.size = bN at *
    have hxB := HB5.out.cells
    have hlB := HB5.out.lt
    have hxS := HS5.out.cells
    have hlS := HS5.out.lt
    have hxN := HN5.out.cells
    have hlN := HN5.out.lt
    generalize drf c.Rho (e - a) = d at *
    cases lo_
    · have h0 : ¬ (max (lo - d) tl ≤ min (hi + d) th) := of_decide_eq_false LO.out.symm
      have h1 : ll = tl := by rw [LL.out]; simp
      have h2 : lh = th := by rw [LH.out]; simp
      subst h1 h2
      by_cases h3 : hi + d < ll
      · go_wp2
        all_goals
          go_ret
          refine ⟨by first | (simp; done) | (simp; omega), ?_⟩
          first | exact hb5 | exact hb5.alloc hb5.size _

      · have h4 : lh < lo - d := by omega
        go_wp2
        all_goals
          go_ret
          refine ⟨by first | (simp; done) | (simp; omega), ?_⟩
          first | exact hb5 | exact hb5.alloc hb5.size _


    · have h1 : ll = max (lo - d) tl := by rw [LL.out]; simp
      have h2 : lh = min (hi + d) th := by rw [LH.out]; simp
      have h3 : lo - d ≤ ll := by omega
      have h4 : lh ≤ hi + d := by omega
      have h5 : ll = tl ∨ (ll == tl) = false ∧ ll = lo - d := by
        by_cases hh : ll = tl
        · exact .inl hh
        · exact .inr ⟨by simp [hh], by omega⟩
      have h6 : lh = th ∨ (lh == th) = false ∧ lh = hi + d := by
        by_cases hh : lh = th
        · exact .inl hh
        · exact .inr ⟨by simp [hh], by omega⟩
      clear LO LL LH h1 h2 tdiff
      rcases h5 with h5 | ⟨h5, h5'⟩ <;> rcases h6 with h6 | ⟨h6, h6'⟩
      · subst h5 h6
        go_wp2
        all_goals
          go_ret
          refine ⟨by first | (simp; done) | (simp; omega) | (simp [*]; done) | (simp [*]; omega), ?_⟩
          first | exact hb5 | exact hb5.alloc hb5.size _
      · subst h5
        have h7 : (lh == hi + d) = true := by simp [h6']
        go_wp2
        all_goals
          go_ret
          refine ⟨by first | (simp; done) | (simp; omega) | (simp [*]; done) | (simp [*]; omega), ?_⟩
          first | exact hb5 | exact hb5.alloc hb5.size _
      · subst h6
        have h7 : (ll == lo - d) = true := by simp [h5']
        have g5 := Lib.hid h5'
        clear h5'
        go_wp2
        all_goals
          go_ret
          refine ⟨by first | (simp; done) | (have u5 := g5.out; simp; omega) | (have u5 := g5.out; exfalso; omega), ?_⟩
          first | exact hb5 | exact hb5.alloc hb5.size _
      · have h7 : (ll == lo - d) = true := by simp [h5']
        have h8 : (lh == hi + d) = true := by simp [h6']
        have g5 := Lib.hid h5'
        have g6 := Lib.hid h6'
        clear h5' h6' h4 h3
        go_wp2
        all_goals
          go_ret
          refine ⟨by first | (simp; done) | (have u5 := g5.out; have u6 := g6.out; simp; omega) | (have u5 := g5.out; have u6 := g6.out; exfalso; omega), ?_⟩
          first | exact hb5 | exact hb5.alloc hb5.size _


end Go.Proofs.Ytffpgocacdnfeaa
