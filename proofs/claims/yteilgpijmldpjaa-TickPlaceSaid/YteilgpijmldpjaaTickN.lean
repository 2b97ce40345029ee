/- Layer 11: the laws of settings, walked. -/
import Derived.Test.YteilgpijmldpjaaTickL
import Derived.Deep.QuietTactic
import Derived.BigQuiet
namespace Go.Proofs.Yteilgpijmldpjaa
open Go.ChangeShapes Go.WideShapes Go.ChangeAt Go.RowKit
set_option linter.unusedVariables false
set_option linter.unusedSimpArgs false

theorem quiet_l {P : Program} {f : FuncId} {args : Array Value} {w : World} {n : Nat} {v : Value}
    (h : Calls P f args (w.drewN n) fun e w' => e = .returned v ∧ w.drewN n = w') : Calls P f args (w.drewN n) fun e w'' => e = .returned v ∧ ∃ m, w'' = w.drewN m :=
  h.mono fun _ _ ⟨he, hw⟩ => ⟨he, n, hw.symm⟩

set_option maxHeartbeats 1000000 in
theorem rplace_any (v : Value) (c : Cf) (lo hi : Int) (w : World) (h : IsConf w v c) (hp : 1 ≤ c.P) (hp2 : c.P ≤ 1000000) (hb : 0 ≤ c.Bd) (hb2 : c.Bd ≤ 1000000000)
    (h1 : -9007199254740992 ≤ lo) (h2 : lo ≤ 9007199254740992) (h3 : -9007199254740992 ≤ hi) (h4 : hi ≤ 9007199254740992) :
    Calls Try.prog 17 #[v, .int .i64 lo, .int .i64 hi] w fun e w' => e = .returned (.tuple #[.int .i64 (placeN c.P c.Bd lo hi), .bool (placeO c.Bd lo hi)]) ∧ Below w.heap.size w w' := by
  obtain ⟨s, r, rfl, _⟩ := h
  have hm := mid_bd lo hi h1 h2 h3 h4
  by_cases ho : hi - lo ≤ 2 * c.Bd
  · have e1 : placeO c.Bd lo hi = true := decide_eq_true ho
    have e2 : placeN c.P c.Bd lo hi = tk c.P (mid lo hi) := by unfold placeN; rw [if_pos e1]
    have E1 := Lib.hid e1
    have hm2 : -9007199254740992 ≤ fl (lo + hi) 2 ∧ fl (lo + hi) 2 ≤ 9007199254740992 := hm
    unfold mid at e2
    have E2 := Lib.hid e2
    clear e1 e2
    generalize c.P = P at *
    generalize c.Bd = Bd at *
    go_enter Try.func17, Try.ntmps17
    go_wp2_with fail
    have hW : IntKind.i64.wrap (lo + hi) = lo + hi := IntWalk.i64_in _ (by omega)
    go_quiet ((first | (go_at_call 21; exact quiet_l (rfloor_any _ _ _ (by omega) (by omega) (by omega) (by omega))) | (go_at_call 13; exact quiet_l (rnear_any _ _ _ hp hp2 hm2.1 hm2.2))))
    go_wp2
    go_ret2
    exact ⟨by simp [E1.out, E2.out], Bdrew ((Below.refl _ _).alloc (Nat.le_refl _) _) _⟩
  · have e1 : placeO c.Bd lo hi = false := decide_eq_false ho
    have e2 : placeN c.P c.Bd lo hi = 0 := by unfold placeN; rw [e1]; rfl
    have E1 := Lib.hid e1
    have E2 := Lib.hid e2
    clear e1 e2
    generalize c.P = P at *
    generalize c.Bd = Bd at *
    go_enter Try.func17, Try.ntmps17
    go_wp2
    go_ret2
    exact ⟨by simp [E1.out, E2.out], by go_grown⟩

/-- the numbers that are between the ends -/
theorem mid_in (lo hi : Int) (h : lo ≤ hi) : lo ≤ mid lo hi ∧ mid lo hi ≤ hi := by unfold mid fl; omega
theorem mid_near (lo hi bd m : Int) (h : hi - lo ≤ 2 * bd) (h1 : lo ≤ m) (h2 : m ≤ hi) : m - bd ≤ mid lo hi ∧ mid lo hi ≤ m + bd := by unfold mid fl; omega
theorem mid_shift (lo hi p : Int) : mid (lo + p) (hi + p) = mid lo hi + p := by unfold mid fl; omega

set_option maxHeartbeats 2000000 in
theorem walk_TickTells (v : Value) (c : Cf) (p m lo hi : Int) (w : World) (hc : IsConf w v c) (wc : (Lit.int .i64 c.P).wf = true ∧ (Lit.int .i64 c.H).wf = true ∧ (Lit.int .i64 c.C).wf = true ∧ (Lit.int .i64 c.Mn).wf = true ∧ (Lit.int .i64 c.Mx).wf = true ∧ (Lit.int .i64 c.Rho).wf = true ∧ (Lit.int .i64 c.Bd).wf = true ∧ (Lit.int .i64 c.Win).wf = true ∧ (Lit.int .i64 c.St).wf = true)
    (wr : ∀ r ∈ c.rows, ∀ z ∈ r, (Lit.int .i64 z).wf = true) (w1 : (Lit.int .i64 p).wf = true) (w2 : (Lit.int .i64 m).wf = true) (w3 : (Lit.int .i64 lo).wf = true) (w4 : (Lit.int .i64 hi).wf = true) :
    Calls Try.prog 3 #[v, .int .i64 p, .int .i64 m, .int .i64 lo, .int .i64 hi] w fun e w' => e = .returned (.bool true) ∧ Below w.heap.size w w' := by
  have hc0 := hc
  obtain ⟨s, r, rfl, _⟩ := hc0
  clear wc wr
  go_enter Try.func3, Try.ntmps3
  clear w1 w2 w3 w4
  go_wp2_with fail
  have hb0 : Below w.heap.size w (w.alloc (.cells #[.int .i64 c.P, .int .i64 c.H, .int .i64 c.C, .int .i64 c.Mn, .int .i64 c.Mx, .int .i64 c.Rho, .int .i64 c.Bd, .int .i64 c.Win, .int .i64 c.St, s, r] 25)) := (Below.refl _ _).alloc (Nat.le_refl _) _
  have HC0 := Lib.hid (hc.below hb0)
  have HB0 := Lib.hid (Blk.new w 25 #[.int .i64 c.P, .int .i64 c.H, .int .i64 c.C, .int .i64 c.Mn, .int .i64 c.Mx, .int .i64 c.Rho, .int .i64 c.Bd, .int .i64 c.Win, .int .i64 c.St, s, r] w.heap.size rfl)
  clear hc
  refine (head_any _).mono ?_
  rintro e w1 ⟨rfl, hk1⟩
  have HC1 := Lib.hid (HC0.out.below hk1)
  have HB1 := Lib.hid (HB0.out.below hk1)
  have hb1 := hb0.trans (hk1.mono (by simp))
  clear HC0 HB0 hk1 hb0
  have hx := HB1.out.cells
  go_wp2_with fail
  refine (timed_any _ _).mono ?_
  rintro e w2 ⟨rfl, rfl⟩
  rcases hg : timedB m with _ | _
  · go_wp2_with fail
    refine (great_any _ c _ HC1.out).mono ?_
    rintro e w2 ⟨rfl, hk2⟩
    have HC2 := Lib.hid (HC1.out.below hk2)
    have HB2 := Lib.hid (HB1.out.below hk2)
    have hb2 := hb1.trans (hk2.mono hb1.size)
    clear HC1 HB1 hk2 hx
    have hx := HB2.out.cells
    rcases hgr : greatB c.rows with _ | _
    case true =>
      go_wp2
      all_goals
        go_ret
        exact ⟨rfl, hb2⟩
    go_wp2_with fail
    refine (rright_any _ c _ HC2.out).mono ?_
    rintro e w3 ⟨rfl, hk3⟩
    have HC3 := Lib.hid (HC2.out.below hk3)
    have HB3 := Lib.hid (HB2.out.below hk3)
    have hb3 := hb2.trans (hk3.mono hb2.size)
    clear HC2 HB2 hk3 hx
    have hx := HB3.out.cells
    rcases hcf : confO c with _ | _
    · go_wp2
      all_goals
        go_ret
        exact ⟨rfl, hb3⟩
    have hcp := confP hcf
    go_wp2_with fail
    refine (timed_any _ _).mono ?_
    rintro e w4 ⟨rfl, rfl⟩
    rcases hlo : timedB lo with _ | _
    · go_wp2
      all_goals
        go_ret
        exact ⟨rfl, hb3⟩
    go_wp2_with fail
    refine (timed_any _ _).mono ?_
    rintro e w4 ⟨rfl, rfl⟩
    rcases hhi : timedB hi with _ | _
    · go_wp2
      all_goals
        go_ret
        exact ⟨rfl, hb3⟩
    have plo := timedP hlo
    have phi := timedP hhi
    by_cases hlh : hi < lo
    · go_wp2
      all_goals
        go_ret
        exact ⟨rfl, hb3⟩
    go_wp2_with fail
    refine (place_any _ c _ _ _ HC3.out (by omega) (by omega) (by omega) (by omega) (by omega) (by omega) (by omega) (by omega)).mono ?_
    rintro e w4 ⟨rfl, hk4⟩
    have HC4 := Lib.hid (HC3.out.below hk4)
    have HB4 := Lib.hid (HB3.out.below hk4)
    have hb4 := hb3.trans (hk4.mono hb3.size)
    clear HC3 HB3 hk4 hx
    have hx := HB4.out.cells
    go_wp2_with fail
    refine (rplace_any _ c _ _ _ HC4.out (by omega) (by omega) (by omega) (by omega) (by omega) (by omega) (by omega) (by omega)).mono ?_
    rintro e w5 ⟨rfl, hk5⟩
    have HC5 := Lib.hid (HC4.out.below hk5)
    have HB5 := Lib.hid (HB4.out.below hk5)
    have hb5 := hb4.trans (hk5.mono hb4.size)
    clear HC4 HB4 hk5 hx
    have hx := HB5.out.cells
    go_wp2
    all_goals
      go_ret
      exact ⟨by simp, hb5⟩

  have pm := timedP hg
  go_wp2_with fail
  refine (period_any _ _).mono ?_
  rintro e w2 ⟨rfl, rfl⟩
  rcases hh : periodB p with _ | _
  · go_wp2_with fail
    refine (great_any _ c _ HC1.out).mono ?_
    rintro e w2 ⟨rfl, hk2⟩
    have HC2 := Lib.hid (HC1.out.below hk2)
    have HB2 := Lib.hid (HB1.out.below hk2)
    have hb2 := hb1.trans (hk2.mono hb1.size)
    clear HC1 HB1 hk2 hx
    have hx := HB2.out.cells
    rcases hgr : greatB c.rows with _ | _
    case true =>
      go_wp2
      all_goals
        go_ret
        exact ⟨rfl, hb2⟩
    go_wp2_with fail
    refine (rright_any _ c _ HC2.out).mono ?_
    rintro e w3 ⟨rfl, hk3⟩
    have HC3 := Lib.hid (HC2.out.below hk3)
    have HB3 := Lib.hid (HB2.out.below hk3)
    have hb3 := hb2.trans (hk3.mono hb2.size)
    clear HC2 HB2 hk3 hx
    have hx := HB3.out.cells
    rcases hcf : confO c with _ | _
    · go_wp2
      all_goals
        go_ret
        exact ⟨rfl, hb3⟩
    have hcp := confP hcf
    go_wp2_with fail
    refine (timed_any _ _).mono ?_
    rintro e w4 ⟨rfl, rfl⟩
    rcases hlo : timedB lo with _ | _
    · go_wp2
      all_goals
        go_ret
        exact ⟨rfl, hb3⟩
    go_wp2_with fail
    refine (timed_any _ _).mono ?_
    rintro e w4 ⟨rfl, rfl⟩
    rcases hhi : timedB hi with _ | _
    · go_wp2
      all_goals
        go_ret
        exact ⟨rfl, hb3⟩
    have plo := timedP hlo
    have phi := timedP hhi
    by_cases hlh : hi < lo
    · go_wp2
      all_goals
        go_ret
        exact ⟨rfl, hb3⟩
    go_wp2_with fail
    refine (place_any _ c _ _ _ HC3.out (by omega) (by omega) (by omega) (by omega) (by omega) (by omega) (by omega) (by omega)).mono ?_
    rintro e w4 ⟨rfl, hk4⟩
    have HC4 := Lib.hid (HC3.out.below hk4)
    have HB4 := Lib.hid (HB3.out.below hk4)
    have hb4 := hb3.trans (hk4.mono hb3.size)
    clear HC3 HB3 hk4 hx
    have hx := HB4.out.cells
    go_wp2_with fail
    refine (rplace_any _ c _ _ _ HC4.out (by omega) (by omega) (by omega) (by omega) (by omega) (by omega) (by omega) (by omega)).mono ?_
    rintro e w5 ⟨rfl, hk5⟩
    have HC5 := Lib.hid (HC4.out.below hk5)
    have HB5 := Lib.hid (HB4.out.below hk5)
    have hb5 := hb4.trans (hk5.mono hb4.size)
    clear HC4 HB4 hk5 hx
    have hx := HB5.out.cells
    go_wp2
    all_goals
      go_ret
      exact ⟨by simp, hb5⟩

  have pp := periodP hh
  go_wp2_with fail
  refine (near_any _ _ _ pp.1 pp.2 (by omega) (by omega)).mono ?_
  rintro e w2 ⟨rfl, hk2⟩
  have HC2 := Lib.hid (HC1.out.below hk2)
  have HB2 := Lib.hid (HB1.out.below hk2)
  have hb2 := hb1.trans (hk2.mono hb1.size)
  clear HC1 HB1 hk2 hx
  have hx := HB2.out.cells
  go_wp2_with fail
  refine (rnear_any _ _ _ pp.1 pp.2 (by omega) (by omega)).mono ?_
  rintro e w3 ⟨rfl, rfl⟩
  go_wp2_with fail
  refine (great_any _ c _ HC2.out).mono ?_
  rintro e w3 ⟨rfl, hk3⟩
  have HC3 := Lib.hid (HC2.out.below hk3)
  have HB3 := Lib.hid (HB2.out.below hk3)
  have hb3 := hb2.trans (hk3.mono hb2.size)
  clear HC2 HB2 hk3 hx
  have hx := HB3.out.cells
  rcases hgr : greatB c.rows with _ | _
  case true =>
    go_wp2
    all_goals
      go_ret
      exact ⟨rfl, hb3⟩
  go_wp2_with fail
  refine (rright_any _ c _ HC3.out).mono ?_
  rintro e w4 ⟨rfl, hk4⟩
  have HC4 := Lib.hid (HC3.out.below hk4)
  have HB4 := Lib.hid (HB3.out.below hk4)
  have hb4 := hb3.trans (hk4.mono hb3.size)
  clear HC3 HB3 hk4 hx
  have hx := HB4.out.cells
  rcases hcf : confO c with _ | _
  · go_wp2
    all_goals
      go_ret
      exact ⟨rfl, hb4⟩
  have hcp := confP hcf
  go_wp2_with fail
  refine (timed_any _ _).mono ?_
  rintro e w5 ⟨rfl, rfl⟩
  rcases hlo : timedB lo with _ | _
  · go_wp2
    all_goals
      go_ret
      exact ⟨rfl, hb4⟩
  go_wp2_with fail
  refine (timed_any _ _).mono ?_
  rintro e w5 ⟨rfl, rfl⟩
  rcases hhi : timedB hi with _ | _
  · go_wp2
    all_goals
      go_ret
      exact ⟨rfl, hb4⟩
  have plo := timedP hlo
  have phi := timedP hhi
  by_cases hlh : hi < lo
  · go_wp2
    all_goals
      go_ret
      exact ⟨rfl, hb4⟩
  go_wp2_with fail
  refine (place_any _ c _ _ _ HC4.out (by omega) (by omega) (by omega) (by omega) (by omega) (by omega) (by omega) (by omega)).mono ?_
  rintro e w5 ⟨rfl, hk5⟩
  have HC5 := Lib.hid (HC4.out.below hk5)
  have HB5 := Lib.hid (HB4.out.below hk5)
  have hb5 := hb4.trans (hk5.mono hb4.size)
  clear HC4 HB4 hk5 hx
  have hx := HB5.out.cells
  go_wp2_with fail
  refine (rplace_any _ c _ _ _ HC5.out (by omega) (by omega) (by omega) (by omega) (by omega) (by omega) (by omega) (by omega)).mono ?_
  rintro e w6 ⟨rfl, hk6⟩
  have HC6 := Lib.hid (HC5.out.below hk6)
  have HB6 := Lib.hid (HB5.out.below hk6)
  have hb6 := hb5.trans (hk6.mono hb5.size)
  clear HC5 HB5 hk6 hx
  have hx := HB6.out.cells
  go_wp2
  all_goals
    go_ret
    exact ⟨by simp, hb6⟩

set_option maxHeartbeats 2000000 in
theorem walk_TickShift (v : Value) (c : Cf) (lo hi : Int) (w : World) (hc : IsConf w v c) (wc : (Lit.int .i64 c.P).wf = true ∧ (Lit.int .i64 c.H).wf = true ∧ (Lit.int .i64 c.C).wf = true ∧ (Lit.int .i64 c.Mn).wf = true ∧ (Lit.int .i64 c.Mx).wf = true ∧ (Lit.int .i64 c.Rho).wf = true ∧ (Lit.int .i64 c.Bd).wf = true ∧ (Lit.int .i64 c.Win).wf = true ∧ (Lit.int .i64 c.St).wf = true)
    (wr : ∀ r ∈ c.rows, ∀ z ∈ r, (Lit.int .i64 z).wf = true) (w3 : (Lit.int .i64 lo).wf = true) (w4 : (Lit.int .i64 hi).wf = true) :
    Calls Try.prog 8 #[v, .int .i64 lo, .int .i64 hi] w fun e w' => e = .returned (.bool true) ∧ Below w.heap.size w w' := by
  have hc0 := hc
  obtain ⟨s, r, rfl, _⟩ := hc0
  clear wc wr
  go_enter Try.func8, Try.ntmps8
  have bhi := bounds_i64 w4
  clear w3 w4
  go_wp2_with fail
  have hb0 : Below w.heap.size w (w.alloc (.cells #[.int .i64 c.P, .int .i64 c.H, .int .i64 c.C, .int .i64 c.Mn, .int .i64 c.Mx, .int .i64 c.Rho, .int .i64 c.Bd, .int .i64 c.Win, .int .i64 c.St, s, r] 25)) := (Below.refl _ _).alloc (Nat.le_refl _) _
  have HC0 := Lib.hid (hc.below hb0)
  have HB0 := Lib.hid (Blk.new w 25 #[.int .i64 c.P, .int .i64 c.H, .int .i64 c.C, .int .i64 c.Mn, .int .i64 c.Mx, .int .i64 c.Rho, .int .i64 c.Bd, .int .i64 c.Win, .int .i64 c.St, s, r] w.heap.size rfl)
  clear hc
  refine (head_any _).mono ?_
  rintro e w1 ⟨rfl, hk1⟩
  have HC1 := Lib.hid (HC0.out.below hk1)
  have HB1 := Lib.hid (HB0.out.below hk1)
  have hb1 := hb0.trans (hk1.mono (by simp))
  clear HC0 HB0 hk1 hb0
  have hx := HB1.out.cells
  go_wp2_with fail
  refine (great_any _ c _ HC1.out).mono ?_
  rintro e w2 ⟨rfl, hk2⟩
  have HC2 := Lib.hid (HC1.out.below hk2)
  have HB2 := Lib.hid (HB1.out.below hk2)
  have hb2 := hb1.trans (hk2.mono hb1.size)
  clear HC1 HB1 hk2 hx
  have hx := HB2.out.cells
  rcases hgr : greatB c.rows with _ | _
  case true =>
    go_wp2
    all_goals
      go_ret
      exact ⟨rfl, hb2⟩
  go_wp2_with fail
  refine (rright_any _ c _ HC2.out).mono ?_
  rintro e w3 ⟨rfl, hk3⟩
  have HC3 := Lib.hid (HC2.out.below hk3)
  have HB3 := Lib.hid (HB2.out.below hk3)
  have hb3 := hb2.trans (hk3.mono hb2.size)
  clear HC2 HB2 hk3 hx
  have hx := HB3.out.cells
  rcases hcf : confO c with _ | _
  · go_wp2
    all_goals
      go_ret
      exact ⟨rfl, hb3⟩
  have hcp := confP hcf
  go_wp2_with fail
  refine (timed_any _ _).mono ?_
  rintro e w4 ⟨rfl, rfl⟩
  rcases hlo : timedB lo with _ | _
  · go_wp2
    all_goals
      go_ret
      exact ⟨rfl, hb3⟩
  go_wp2_with fail
  refine (timed_any _ _).mono ?_
  rintro e w4 ⟨rfl, rfl⟩
  rcases hhi : timedB hi with _ | _
  · go_wp2
    all_goals
      go_ret
      exact ⟨rfl, hb3⟩
  have plo := timedP hlo
  have phi := timedP hhi
  by_cases hlh : hi < lo
  · go_wp2
    all_goals
      go_ret
      exact ⟨rfl, hb3⟩
  go_wp2_with fail
  refine (timed_any _ _).mono ?_
  rintro e w4 ⟨rfl, rfl⟩
  rcases hhp : timedB (hi + c.P) with _ | _
  · go_wp2
    all_goals
      go_ret
      exact ⟨rfl, hb3⟩
  have php := timedP hhp
  have s1 : placeO c.Bd (lo + c.P) (hi + c.P) = placeO c.Bd lo hi := by unfold placeO; rw [show hi + c.P - (lo + c.P) = hi - lo from by omega]
  have s2 : placeO c.Bd lo lo = true := by unfold placeO; simp; omega
  have s3 : placeN c.P c.Bd lo lo = tk c.P lo := by unfold placeN; rw [if_pos s2]; congr 1; unfold mid fl; omega
  have hmb := mid_bd lo hi (by omega) (by omega) (by omega) (by omega)
  have htb := tk_bd c.P (mid lo hi) (by omega) (by omega) hmb.1 hmb.2
  have S4 := Lib.hid (show placeO c.Bd lo hi = true → placeN c.P c.Bd (lo + c.P) (hi + c.P) = tk c.P (mid lo hi) + 1 ∧ placeN c.P c.Bd lo hi = tk c.P (mid lo hi) from fun h => by
    unfold placeN
    rw [if_pos (by rw [s1]; exact h), if_pos h, mid_shift]
    exact ⟨tk_step _ _ (by omega), rfl⟩)
  go_wp2_with fail
  refine (place_any _ c _ _ _ HC3.out (by omega) (by omega) (by omega) (by omega) (by omega) (by omega) (by omega) (by omega)).mono ?_
  rintro e w4 ⟨rfl, hk4⟩
  have HC4 := Lib.hid (HC3.out.below hk4)
  have HB4 := Lib.hid (HB3.out.below hk4)
  have hb4 := hb3.trans (hk4.mono hb3.size)
  clear HC3 HB3 hk4 hx
  have hx := HB4.out.cells
  go_wp2_with fail
  refine (place_any _ c _ _ _ HC4.out (by omega) (by omega) (by omega) (by omega) (by omega) (by omega) (by omega) (by omega)).mono ?_
  rintro e w5 ⟨rfl, hk5⟩
  have HC5 := Lib.hid (HC4.out.below hk5)
  have HB5 := Lib.hid (HB4.out.below hk5)
  have hb5 := hb4.trans (hk5.mono hb4.size)
  clear HC4 HB4 hk5 hx
  have hx := HB5.out.cells
  go_wp2_with fail
  refine (place_any _ c _ _ _ HC5.out (by omega) (by omega) (by omega) (by omega) (by omega) (by omega) (by omega) (by omega)).mono ?_
  rintro e w6 ⟨rfl, hk6⟩
  have HC6 := Lib.hid (HC5.out.below hk6)
  have HB6 := Lib.hid (HB5.out.below hk6)
  have hb6 := hb5.trans (hk6.mono hb5.size)
  clear HC5 HB5 hk6 hx
  have hx := HB6.out.cells
  rcases hpo : placeO c.Bd lo hi with _ | _
  case' true => obtain ⟨q1, q2⟩ := S4.out hpo
  all_goals rw [hpo] at s1
  all_goals
    go_wp2_with fail
    refine (near_any _ _ _ (by omega) (by omega) (by omega) (by omega)).mono ?_
    rintro e w7 ⟨rfl, hk7⟩
    have HC7 := Lib.hid (HC6.out.below hk7)
    have HB7 := Lib.hid (HB6.out.below hk7)
    have hb7 := hb6.trans (hk7.mono hb6.size)
    clear HC6 HB6 hk7 hx
    have hx := HB7.out.cells
    go_wp2
    all_goals
      go_ret
      exact ⟨by simp, hb7⟩


end Go.Proofs.Yteilgpijmldpjaa
