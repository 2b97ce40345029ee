/- Layer 10: the law of how wide, walked. -/
import Derived.Test.YtffpgocacdnfeaaSkewN
namespace Go.Proofs.Ytffpgocacdnfeaa
open Go.ChangeShapes Go.WideShapes Go.ChangeAt Go.RowKit Go.Deep
set_option linter.unusedVariables false
set_option linter.unusedSimpArgs false

theorem quiet_l {P : Program} {f : FuncId} {args : Array Value} {w : World} {n : Nat} {v : Value}
    (h : Calls P f args (w.drewN n) fun e w' => e = .returned v ∧ w.drewN n = w') : Calls P f args (w.drewN n) fun e w'' => e = .returned v ∧ ∃ m, w'' = w.drewN m :=
  h.mono fun _ _ ⟨he, hw⟩ => ⟨he, n, hw.symm⟩

set_option maxRecDepth 100000 in
set_option maxHeartbeats 4000000 in
theorem walk_SkewWide (v : Value) (c : Cf) (on : Bool) (a lo hi : Int) (x : Int) (w : World) (hc : IsConf w v c) (wc : (Lit.int .i64 c.P).wf = true ∧ (Lit.int .i64 c.H).wf = true ∧ (Lit.int .i64 c.C).wf = true ∧ (Lit.int .i64 c.Mn).wf = true ∧ (Lit.int .i64 c.Mx).wf = true ∧ (Lit.int .i64 c.Rho).wf = true ∧ (Lit.int .i64 c.Bd).wf = true ∧ (Lit.int .i64 c.Win).wf = true ∧ (Lit.int .i64 c.St).wf = true)
    (wr : ∀ r ∈ c.rows, ∀ z ∈ r, (Lit.int .i64 z).wf = true) (we : (Lit.int .i64 a).wf = true ∧ (Lit.int .i64 lo).wf = true ∧ (Lit.int .i64 hi).wf = true) (w3 : (Lit.int .i64 x).wf = true) :
    Calls Try.prog 6 #[v, .agg #[.bool on, .int .i64 a, .int .i64 lo, .int .i64 hi], .int .i64 x] w fun z w' => z = .returned (.bool true) ∧ Below w.heap.size w w' := by
  have hc0 := hc
  obtain ⟨s, r, rfl, _⟩ := hc0
  clear wr we
  go_enter Try.func6, Try.ntmps6
  clear w3 wc
  go_wp2_with fail
  have hb0 : Below w.heap.size w ((w.alloc (.cells #[.int .i64 c.P, .int .i64 c.H, .int .i64 c.C, .int .i64 c.Mn, .int .i64 c.Mx, .int .i64 c.Rho, .int .i64 c.Bd, .int .i64 c.Win, .int .i64 c.St, s, r] 25)).alloc (.cells #[.bool on, .int .i64 a, .int .i64 lo, .int .i64 hi] 31)) := by go_grown
  have HC0 := Lib.hid (hc.below hb0)
  have HB0 := Lib.hid ((Blk.new w 25 #[.int .i64 c.P, .int .i64 c.H, .int .i64 c.C, .int .i64 c.Mn, .int .i64 c.Mx, .int .i64 c.Rho, .int .i64 c.Bd, .int .i64 c.Win, .int .i64 c.St, s, r] w.heap.size rfl).below ((Below.refl _ (w.alloc (.cells #[.int .i64 c.P, .int .i64 c.H, .int .i64 c.C, .int .i64 c.Mn, .int .i64 c.Mx, .int .i64 c.Rho, .int .i64 c.Bd, .int .i64 c.Win, .int .i64 c.St, s, r] 25))).alloc (Nat.le_refl _) (.cells #[.bool on, .int .i64 a, .int .i64 lo, .int .i64 hi] 31)))
  have HS0 := Lib.hid (Blk.new (w.alloc (.cells #[.int .i64 c.P, .int .i64 c.H, .int .i64 c.C, .int .i64 c.Mn, .int .i64 c.Mx, .int .i64 c.Rho, .int .i64 c.Bd, .int .i64 c.Win, .int .i64 c.St, s, r] 25)) 31 #[.bool on, .int .i64 a, .int .i64 lo, .int .i64 hi] (w.heap.size + 1) (by simp))
  clear hc
  refine (head_any _).mono ?_
  rintro z w1 ⟨rfl, hk1⟩
  have HC1 := Lib.hid (HC0.out.below hk1)
  have HB1 := Lib.hid (HB0.out.below hk1)
  have HS1 := Lib.hid (HS0.out.below hk1)
  have hb1 := hb0.trans (hk1.mono hb0.size)
  clear HC0 hk1 hb0 HB0 HS0
  have hxB := HB1.out.cells
  have hlB := HB1.out.lt
  have hxS := HS1.out.cells
  have hlS := HS1.out.lt
  go_wp2_with fail
  refine (good_any _ c on a lo hi _ HC1.out).mono ?_
  rintro z w2 ⟨rfl, hbx⟩
  have HC2 := Lib.hid (HC1.out.below hbx)
  have hb2 := hb1.trans (hbx.mono hb1.size)
  have HB2 := Lib.hid (HB1.out.below hbx)
  have HS2 := Lib.hid (HS1.out.below hbx)
  clear hxB hlB hxS hlS HC1 hb1 hbx HB1 HS1
  have hxB := HB2.out.cells
  have hlB := HB2.out.lt
  have hxS := HS2.out.cells
  have hlS := HS2.out.lt
  rcases hgd : goodE c on a lo hi with _ | _
  · go_wp2
    all_goals
      go_ret
      exact ⟨rfl, hb2⟩
  obtain ⟨hcf, hes⟩ := goodP hgd
  have hcp := confP hcf
  go_wp2_with fail
  refine (time_any _ _).mono ?_
  rintro z w3 ⟨rfl, rfl⟩
  rcases hte : timeB x with _ | _
  · go_wp2
    all_goals
      go_ret
      exact ⟨rfl, hb2⟩
  have pe := timeP hte
  cases on
  · go_wp2_with fail
    refine (atf_off _ c a lo hi x _ HC2.out).mono ?_
    rintro z w3 ⟨rfl, hk⟩
    have hb3 := hb2.trans (hk.mono hb2.size)
    have HB3 := Lib.hid (HB2.out.below hk)
    have HS3 := Lib.hid (HS2.out.below hk)
    clear hxB hlB hxS hlS hb2 hk HB2 HS2
    have hxS := HS3.out.cells
    have hlS := HS3.out.lt
    go_wp2
    all_goals
      go_ret
      refine ⟨by simp, ?_⟩
      first | exact hb3 | exact hb3.alloc hb3.size _
  · have q5 := estP hes
    have hd0 := drf_nonneg c.Rho (x - a) (by omega)
    have hd1 := drf_size c.Rho (x - a) (by omega) (by omega) (by omega) (by omega)
    go_wp2_with fail
    refine (atf_on _ c a lo hi x _ HC2.out (by omega) (by omega) (by omega) (by omega) (by omega)).mono ?_
    rintro z w3 ⟨rfl, hk⟩
    have hb3 := hb2.trans (hk.mono hb2.size)
    have HB3 := Lib.hid (HB2.out.below hk)
    have HS3 := Lib.hid (HS2.out.below hk)
    have HC3 := Lib.hid (HC2.out.below hk)
    clear hxB hlB hxS hlS hb2 hk HB2 HS2 HC2
    have hxB := HB3.out.cells
    have hlB := HB3.out.lt
    have hxS := HS3.out.cells
    have hlS := HS3.out.lt
    go_wp2_with fail
    refine (atf_on _ c a lo hi a _ HC3.out (by omega) (by omega) (by omega) (by omega) (by omega)).mono ?_
    rintro z w4 ⟨rfl, hk⟩
    have hb4 := hb3.trans (hk.mono hb3.size)
    have HB4 := Lib.hid (HB3.out.below hk)
    have HS4 := Lib.hid (HS3.out.below hk)
    clear hxB hlB hxS hlS hb3 hk HB3 HS3 HC3
    have hxB := HB4.out.cells
    have hlB := HB4.out.lt
    have hxS := HS4.out.cells
    have hlS := HS4.out.lt
    rw [show a + (lo - drf c.Rho (a - a)) = a + lo by rw [Int.sub_self, drf_zero]; omega, show a + (hi + drf c.Rho (a - a)) = a + hi by rw [Int.sub_self, drf_zero]; omega]
    have hR := Lib.hid (fun W => rdrift_any c.Rho (x - a) W (by omega) (by omega) (by omega) (by omega))
    generalize drf c.Rho (x - a) = d at *
    have s1 : IntKind.i64.wrap (a + lo) = a + lo := IntWalk.i64_in _ (by omega)
    have s2 : IntKind.i64.wrap (a + hi) = a + hi := IntWalk.i64_in _ (by omega)
    have s3 : IntKind.i64.wrap (x + (hi + d) - (x + (lo - d))) = hi - lo + 2 * d := by rw [IntWalk.i64_in _ (by omega)]; omega
    have s4 : IntKind.i64.wrap (hi - lo) = hi - lo := IntWalk.i64_in _ (by omega)
    have s5 : IntKind.i64.wrap (2 * d) = 2 * d := IntWalk.i64_in _ (by omega)
    have s6 : IntKind.i64.wrap (hi - lo + 2 * d) = hi - lo + 2 * d := IntWalk.i64_in _ (by omega)
    have s7 : IntKind.i64.wrap (x - a) = x - a := IntWalk.i64_in _ (by omega)
    have s8 : IntKind.i64.wrap (x + (lo - d) + (x + (hi + d))) = 2 * x + lo + hi := by rw [IntWalk.i64_in _ (by omega)]; omega
    have s9 : IntKind.i64.wrap (2 * x) = 2 * x := IntWalk.i64_in _ (by omega)
    have s10 : IntKind.i64.wrap (2 * x + lo) = 2 * x + lo := IntWalk.i64_in _ (by omega)
    have s11 : IntKind.i64.wrap (2 * x + lo + hi) = 2 * x + lo + hi := IntWalk.i64_in _ (by omega)
    clear hcf hes hcp pe q5 hd0 hd1 hgd hte
    go_wp2_with fail
    go_quiet ((go_at_call 11; exact quiet_l (hR.out _)))
    go_wp2
    go_ret
    exact ⟨by simp, Bdrew hb4 _⟩
end Go.Proofs.Ytffpgocacdnfeaa
