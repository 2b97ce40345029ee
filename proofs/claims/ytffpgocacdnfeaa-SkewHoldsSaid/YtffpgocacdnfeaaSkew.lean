/- Layer 10: contracts. -/
import Derived.Test.YtffpgocacdnfeaaQuotC
import Derived.Test.YtffpgocacdnfeaaConf
import Derived.Deep.RegionHeld3
import Derived.Deep.QuietTactic
import Derived.BigQuiet
import Derived.Laws.EntriesVeiled
namespace Go.Proofs.Ytffpgocacdnfeaa
open Go.ChangeShapes Go.WideShapes Go.ChangeAt Go.RowKit
set_option linter.unusedVariables false
set_option linter.unusedSimpArgs false

theorem bcell {W w1 : World} (hb : Below W.heap.size W w1) : ∀ b o, b < W.heap.size → w1.cell? ⟨b, o, none⟩ = W.cell? ⟨b, o, none⟩ := fun b o h => hb.cell (p := ⟨b, o, none⟩) h

theorem bfroz {W w1 : World} (hb : Below W.heap.size W w1) : ∀ b o, b < W.heap.size → w1.frozen? ⟨b, o, none⟩ = W.frozen? ⟨b, o, none⟩ := fun b o h => hb.frozen (p := ⟨b, o, none⟩) h

def toldLo (c : Cf) (e t : Int) : Int := (t - 1) * c.P + 1 - c.Mx - e
def toldHi (c : Cf) (e t : Int) : Int := t * c.P - c.Mn - e

set_option maxHeartbeats 1000000 in
theorem told_any (v : Value) (c : Cf) (e t : Int) (w : World) (h : IsConf w v c) (hp : 1 ≤ c.P ∧ c.P ≤ 1000000) (hm : 0 ≤ c.Mn ∧ c.Mn ≤ 1000000000) (hx : 0 ≤ c.Mx ∧ c.Mx ≤ 1000000000) (he : 0 ≤ e ∧ e ≤ 2199023255552) (ht : 0 ≤ t ∧ t ≤ 1073741824) :
    Calls Try.prog 18 #[v, .int .i64 e, .int .i64 t] w fun z w' => z = .returned (.tuple #[.int .i64 (toldLo c e t), .int .i64 (toldHi c e t)]) ∧ Below w.heap.size w w' := by
  obtain ⟨s, r, rfl, _⟩ := h
  have H1 := Lib.hid (show toldLo c e t = (t - 1) * c.P + 1 - c.Mx - e from rfl)
  have H2 := Lib.hid (show toldHi c e t = t * c.P - c.Mn - e from rfl)
  have b1 : -1000000 ≤ (t - 1) * c.P ∧ (t - 1) * c.P ≤ 1073741824000000 := by
    rcases (by omega : t = 0 ∨ 1 ≤ t) with h0 | h0
    · subst h0; omega
    · have a1 := Int.mul_nonneg (show 0 ≤ t - 1 by omega) (show 0 ≤ c.P by omega)
      have a2 : (t - 1) * c.P ≤ 1073741824 * 1000000 := Int.mul_le_mul (by omega) (by omega) (by omega) (by omega)
      omega
  have b2 : 0 ≤ t * c.P ∧ t * c.P ≤ 1073741824000000 := by
    have a1 := Int.mul_nonneg (show 0 ≤ t by omega) (show 0 ≤ c.P by omega)
    have a2 : t * c.P ≤ 1073741824 * 1000000 := Int.mul_le_mul (by omega) (by omega) (by omega) (by omega)
    omega
  have k1 : IntKind.i64.wrap (t - 1) = t - 1 := IntWalk.i64_in _ (by omega)
  have k2 : IntKind.i64.wrap ((t - 1) * c.P) = (t - 1) * c.P := IntWalk.i64_in _ (by omega)
  have k3 : IntKind.i64.wrap ((t - 1) * c.P + 1) = (t - 1) * c.P + 1 := IntWalk.i64_in _ (by omega)
  have k4 : IntKind.i64.wrap ((t - 1) * c.P + 1 - c.Mx) = (t - 1) * c.P + 1 - c.Mx := IntWalk.i64_in _ (by omega)
  have k5 : IntKind.i64.wrap ((t - 1) * c.P + 1 - c.Mx - e) = (t - 1) * c.P + 1 - c.Mx - e := IntWalk.i64_in _ (by omega)
  have k6 : IntKind.i64.wrap (t * c.P) = t * c.P := IntWalk.i64_in _ (by omega)
  have k7 : IntKind.i64.wrap (t * c.P - c.Mn) = t * c.P - c.Mn := IntWalk.i64_in _ (by omega)
  have k8 : IntKind.i64.wrap (t * c.P - c.Mn - e) = t * c.P - c.Mn - e := IntWalk.i64_in _ (by omega)
  go_enter Try.func18, Try.ntmps18
  go_wp2_with fail
  go_quiet (fail)
  go_wp2
  go_ret2
  exact ⟨by simp [H1.out, H2.out], Bdrew ((Below.refl _ _).alloc (Nat.le_refl _) _) _⟩

theorem ceil_x (a b : Int) (w : World) (h1 : -4611686018427387904 ≤ a) (h2 : a ≤ 4611686018427387904) (hb : 1 ≤ b) (hc : b ≤ 4611686018427387904) :
    Calls Try.prog 28 #[.int .i64 a, .int .i64 b] w fun e w' => e = .returned (.int .i64 (ce a b)) ∧ w.alloc (.cells #[.func (.func 30) #[] #[]] 56) = w' := by
  have HF := Lib.hid (ce_t a b hb)
  have hlo := t_lo a b hb
  have hhi := t_hi a b hb
  by_cases ha : a < 0
  · have hq := t_div_neg a b hb ha
    have hr := t_neg a b ha
    go_enter Try.func28, Try.ntmps28
    go_wp2
    all_goals
      go_ret
      refine ⟨?_, rfl⟩
      simp
      rw [HF.out]
      split <;> omega
  · have hq : a / b ≤ a := Int.ediv_le_self b (by omega)
    have hq0 : 0 ≤ a / b := Int.ediv_nonneg (by omega) (by omega)
    have e1 : a.tdiv b = a / b := Int.tdiv_eq_ediv_of_nonneg (by omega)
    have e2 : a.tmod b = a % b := Int.tmod_eq_emod_of_nonneg (by omega)
    rw [e1, e2] at HF
    rw [e2] at hlo hhi
    clear e1 e2
    go_enter Try.func28, Try.ntmps28
    go_wp2
    all_goals
      go_ret
      refine ⟨?_, rfl⟩
      simp
      rw [HF.out]
      split <;> omega
theorem drift_x (rho d : Int) (w : World) (h1 : 0 ≤ rho) (h2 : rho ≤ 1000000) (h3 : -2199023255552 ≤ d) (h4 : d ≤ 2199023255552) :
    Calls Try.prog 25 #[.int .i64 rho, .int .i64 d] w fun e w' => e = .returned (.int .i64 (drf rho d)) ∧ w.alloc (.cells #[.func (.func 30) #[] #[]] 56) = w' := by
  have hx : ∀ x : Int, 0 ≤ x → x ≤ 2199023255552 → 0 ≤ rho * x ∧ rho * x ≤ 2199023255552000000 := fun x h0 hx => by
    have ha := Int.mul_nonneg h1 h0
    have hb := Int.mul_le_mul_of_nonneg_right h2 h0
    omega
  by_cases hd : d < 0
  · have hm := hx (-d) (by omega) (by omega)
    have HD := Lib.hid (show drf rho d = ce (rho * -d) 1000000 by unfold drf; rw [if_pos hd])
    clear hx
    go_enter Try.func25, Try.ntmps25
    go_wp2_with (go_at_call 28; refine (ceil_x _ _ _ (by omega) (by omega) (by omega) (by omega)).mono ?_; rintro e w1 ⟨rfl, rfl⟩)
    go_ret
    exact ⟨by rw [HD.out]; rfl, rfl⟩
  · have hm := hx d (by omega) (by omega)
    have HD := Lib.hid (show drf rho d = ce (rho * d) 1000000 by unfold drf; rw [if_neg hd])
    clear hx
    go_enter Try.func25, Try.ntmps25
    go_wp2_with (go_at_call 28; refine (ceil_x _ _ _ (by omega) (by omega) (by omega) (by omega)).mono ?_; rintro e w1 ⟨rfl, rfl⟩)
    go_ret
    exact ⟨by rw [HD.out]; rfl, rfl⟩

set_option maxHeartbeats 1000000 in
theorem at_any (o : Bool) (a lo hi rho x : Int) (w : World) (hr : 0 ≤ rho ∧ rho ≤ 1000000) (hx : -2199023255552 ≤ x - a ∧ x - a ≤ 2199023255552) (hl : -4503599627370496 ≤ lo ∧ lo ≤ 4503599627370496) (hh : -4503599627370496 ≤ hi ∧ hi ≤ 4503599627370496)
    (hxx : -4611686018427387904 ≤ x ∧ x ≤ 4611686018427387904) :
    Calls Try.prog 23 #[.agg #[.bool o, .int .i64 a, .int .i64 lo, .int .i64 hi], .int .i64 rho, .int .i64 x] w fun z w' => z = .returned (.agg #[.bool true, .int .i64 x, .int .i64 (lo - drf rho (x - a)), .int .i64 (hi + drf rho (x - a))]) ∧
      ((w.alloc (.cells #[.bool o, .int .i64 a, .int .i64 lo, .int .i64 hi] 52)).alloc (.cells #[.bool true, .int .i64 x, .int .i64 (lo - drf rho (x - a)), .int .i64 (hi + drf rho (x - a))] 52)).alloc (.cells #[.func (.func 30) #[] #[]] 56) = w' := by
  have d0 : 0 ≤ drf rho (x - a) ∧ drf rho (x - a) ≤ 2199023255552 := by
    exact ⟨drf_nonneg _ _ hr.1, drf_size _ _ hr.1 hr.2 hx.1 hx.2⟩
  go_enter Try.func23, Try.ntmps23
  go_wp2_with fail
  refine (drift_x _ _ _ hr.1 hr.2 hx.1 hx.2).mono ?_
  rintro e w1 ⟨rfl, rfl⟩
  go_wp2
  go_returns
  exact ⟨rfl, rfl⟩

theorem lesser_any (a b : Int) (w : World) :
    Calls Try.prog 26 #[.int .i64 a, .int .i64 b] w fun z w' => z = .returned (.int .i64 (min a b)) ∧ w = w' := by
  go_enter Try.func26, Try.ntmps26
  go_wp2
  all_goals
    go_ret
    exact ⟨ret_int (by omega), rfl⟩

theorem greater_any (a b : Int) (p : Addr) (w : World) (hc : w.cell? p = some (.func (.func 26) #[] #[])) (h1 : -4611686018427387904 ≤ a ∧ a ≤ 2305843009213693952) (h2 : -4611686018427387904 ≤ b ∧ b ≤ 2305843009213693952) :
    Calls Try.prog 27 #[.int .i64 a, .int .i64 b, .pointer (some p)] w fun z w' => z = .returned (.int .i64 (max a b)) ∧ w = w' := by
  go_enter Try.func27, Try.ntmps27
  go_wp2_with (go_at_call 26; refine (lesser_any _ _ _).mono ?_; rintro e w1 ⟨rfl, rfl⟩)
  go_ret
  exact ⟨ret_int (by omega), rfl⟩

set_option maxHeartbeats 1000000 in
theorem shared_any (o p : Bool) (a lo hi b lo2 hi2 : Int) (w : World) (h1 : -4611686018427387904 ≤ lo ∧ lo ≤ 2305843009213693952) (h2 : -4611686018427387904 ≤ lo2 ∧ lo2 ≤ 2305843009213693952) :
    Calls Try.prog 24 #[.agg #[.bool o, .int .i64 a, .int .i64 lo, .int .i64 hi], .agg #[.bool p, .int .i64 b, .int .i64 lo2, .int .i64 hi2]] w fun z w' => z = .returned (.agg #[.bool true, .int .i64 a, .int .i64 (max lo lo2), .int .i64 (min hi hi2)]) ∧
      ((((w.alloc (.cells #[.bool o, .int .i64 a, .int .i64 lo, .int .i64 hi] 52)).alloc (.cells #[.bool p, .int .i64 b, .int .i64 lo2, .int .i64 hi2] 52)).alloc (.cells #[.bool true, .int .i64 a, .int .i64 (max lo lo2), .int .i64 (min hi hi2)] 52)).alloc
        (.cells #[.func (.func 26) #[] #[]] 35)).drew = w' := by
  go_enter Try.func24, Try.ntmps24
  go_wp2_with fail
  go_region_held3 (fun w' => w'.cell? ⟨w.heap.size, 1, none⟩ = some (.int .i64 a) ∧ w'.cell? ⟨w.heap.size, 2, none⟩ = some (.int .i64 lo) ∧ w'.cell? ⟨w.heap.size, 3, none⟩ = some (.int .i64 hi) ∧
    w'.cell? ⟨w.heap.size + 1, 2, none⟩ = some (.int .i64 lo2) ∧ w'.cell? ⟨w.heap.size + 1, 3, none⟩ = some (.int .i64 hi2) ∧ w'.cell? ⟨w.heap.size + 1 + 1 + 1, 0, none⟩ = some (.func (.func 26) #[] #[])) (simp [go_sem, World.cell?_alloc_past])
    (first | (go_at_call 26; refine (lesser_any _ _ _).mono ?_; rintro e w1 ⟨rfl, rfl⟩) | (go_at_call 27; refine (greater_any _ _ _ _ (by simp [go_sem]) h1 h2).mono ?_; rintro e w1 ⟨rfl, rfl⟩))
  go_wp2
  go_returns
  exact ⟨rfl, rfl⟩

/-- what a packet leaves of an estimate -/
def lookO (c : Cf) (on : Bool) (a lo hi e t : Int) : Bool := !on || decide (max (lo - drf c.Rho (e - a)) (toldLo c e t) ≤ min (hi + drf c.Rho (e - a)) (toldHi c e t))
def lookLo (c : Cf) (on : Bool) (a lo hi e t : Int) : Int := if on = true ∧ lookO c on a lo hi e t = true then max (lo - drf c.Rho (e - a)) (toldLo c e t) else toldLo c e t
def lookHi (c : Cf) (on : Bool) (a lo hi e t : Int) : Int := if on = true ∧ lookO c on a lo hi e t = true then min (hi + drf c.Rho (e - a)) (toldHi c e t) else toldHi c e t

theorem told_bd (c : Cf) (e t : Int) (hp : 1 ≤ c.P ∧ c.P ≤ 1000000) (hm : 0 ≤ c.Mn ∧ c.Mn ≤ 1000000000) (hx : 0 ≤ c.Mx ∧ c.Mx ≤ 1000000000) (he : 0 ≤ e ∧ e ≤ 2199023255552) (ht : 0 ≤ t ∧ t ≤ 1073741824) :
    (-4503599627370496 ≤ toldLo c e t ∧ toldLo c e t ≤ 4503599627370496) ∧ (-4503599627370496 ≤ toldHi c e t ∧ toldHi c e t ≤ 4503599627370496) := by
  unfold toldLo toldHi
  have b1 : -1000000 ≤ (t - 1) * c.P ∧ (t - 1) * c.P ≤ 1073741824000000 := by
    rcases (by omega : t = 0 ∨ 1 ≤ t) with h0 | h0
    · subst h0; omega
    · have a1 := Int.mul_nonneg (show 0 ≤ t - 1 by omega) (show 0 ≤ c.P by omega)
      have a2 : (t - 1) * c.P ≤ 1073741824 * 1000000 := Int.mul_le_mul (by omega) (by omega) (by omega) (by omega)
      omega
  have b2 : 0 ≤ t * c.P ∧ t * c.P ≤ 1073741824000000 := by
    have a1 := Int.mul_nonneg (show 0 ≤ t by omega) (show 0 ≤ c.P by omega)
    have a2 : t * c.P ≤ 1073741824 * 1000000 := Int.mul_le_mul (by omega) (by omega) (by omega) (by omega)
    omega
  omega
end Go.Proofs.Ytffpgocacdnfeaa
