/- Layer 11: contracts. -/
import Derived.Test.YteilgpijmldpjaaQuotF
import Derived.Test.YteilgpijmldpjaaConf
import Derived.Deep.RegionHeld3
namespace Go.Proofs.Yteilgpijmldpjaa
open Go.ChangeShapes Go.WideShapes Go.ChangeAt Go.RowKit
set_option linter.unusedVariables false
set_option linter.unusedSimpArgs false

/-- the tick nearest to a time -/
def tk (p m : Int) : Int := fl (2 * m + p) (2 * p)
/-- the middle of a time between two -/
def mid (lo hi : Int) : Int := fl (lo + hi) 2

theorem nearM_any (p m : Int) (w : World) (hp : 1 ≤ p) (hp2 : p ≤ 1000000) (h1 : -9007199254740992 ≤ m) (h2 : m ≤ 9007199254740992) :
    Calls Try.prog 20 #[.int .i64 p, .int .i64 m] w fun e w' => e = .returned (.int .i64 (tk p m)) ∧ Below w.heap.size w w' := by
  have HT := Lib.hid (show tk p m = fl (2 * m + p) (2 * p) from rfl)
  go_enter Try.func20, Try.ntmps20
  go_wp2_with fail
  refine (floor_any _ _ _ (by omega) (by omega) (by omega) (by omega)).mono ?_
  rintro e w1 ⟨rfl, hb1⟩
  go_wp2
  go_ret
  exact ⟨by rw [HT.out]; simp, hb1⟩

theorem near_any (p m : Int) (w : World) (hp : 1 ≤ p) (hp2 : p ≤ 1000000) (h1 : -9007199254740992 ≤ m) (h2 : m ≤ 9007199254740992) :
    Calls Try.prog 12 #[.int .i64 p, .int .i64 m] w fun e w' => e = .returned (.int .i64 (tk p m)) ∧ Below w.heap.size w w' := by
  go_enter Try.func12, Try.ntmps12
  go_wp2_with fail
  refine (nearM_any _ _ _ hp hp2 h1 h2).mono ?_
  rintro e w1 ⟨rfl, hb1⟩
  go_wp2
  go_ret
  exact ⟨by simp, hb1⟩

theorem rnear_any (p m : Int) (w : World) (hp : 1 ≤ p) (hp2 : p ≤ 1000000) (h1 : -9007199254740992 ≤ m) (h2 : m ≤ 9007199254740992) :
    Calls Try.prog 13 #[.int .i64 p, .int .i64 m] w fun e w' => e = .returned (.int .i64 (tk p m)) ∧ w = w' := by
  have HT := Lib.hid (show tk p m = fl (2 * m + p) (2 * p) from rfl)
  go_enter Try.func13, Try.ntmps13
  go_wp2_with (go_at_call 21; refine (rfloor_any _ _ _ (by omega) (by omega) (by omega) (by omega)).mono ?_; rintro e w1 ⟨rfl, rfl⟩)
  go_ret
  exact ⟨by rw [HT.out]; simp, rfl⟩

theorem wide_any (lo hi : Int) (w : World) (h1 : -9223372036854775808 ≤ hi - lo) (h2 : hi - lo ≤ 9223372036854775807) :
    Calls Try.prog 22 #[.agg #[.int .i64 lo, .int .i64 hi]] w fun e w' => e = .returned (.int .i64 (hi - lo)) ∧ w.alloc (.cells #[.int .i64 lo, .int .i64 hi] 45) = w' := by
  go_enter Try.func22, Try.ntmps22
  go_wp2
  go_ret
  exact ⟨by simp, rfl⟩

theorem middle_any (lo hi : Int) (w : World) (h1 : -9007199254740992 ≤ lo) (h2 : lo ≤ 9007199254740992) (h3 : -9007199254740992 ≤ hi) (h4 : hi ≤ 9007199254740992) :
    Calls Try.prog 23 #[.agg #[.int .i64 lo, .int .i64 hi]] w fun e w' => e = .returned (.int .i64 (mid lo hi)) ∧ Below w.heap.size w w' := by
  have HT := Lib.hid (show mid lo hi = fl (lo + hi) 2 from rfl)
  go_enter Try.func23, Try.ntmps23
  go_wp2_with fail
  refine (floor_any _ _ _ (by omega) (by omega) (by omega) (by omega)).mono ?_
  rintro e w1 ⟨rfl, hb1⟩
  go_wp2
  go_ret
  exact ⟨by rw [HT.out]; simp, ((Below.refl _ _).alloc (Nat.le_refl _) _).trans (hb1.mono (by simp))⟩

def placeO (bd lo hi : Int) : Bool := decide (hi - lo ≤ 2 * bd)
def placeN (p bd lo hi : Int) : Int := if placeO bd lo hi = true then tk p (mid lo hi) else 0

theorem mid_bd (lo hi : Int) (h1 : -9007199254740992 ≤ lo) (h2 : lo ≤ 9007199254740992) (h3 : -9007199254740992 ≤ hi) (h4 : hi ≤ 9007199254740992) : -9007199254740992 ≤ mid lo hi ∧ mid lo hi ≤ 9007199254740992 := by
  unfold mid fl
  omega

set_option maxHeartbeats 1000000 in
theorem place_any (v : Value) (c : Cf) (lo hi : Int) (w : World) (h : IsConf w v c) (hp : 1 ≤ c.P) (hp2 : c.P ≤ 1000000) (hb : 0 ≤ c.Bd) (hb2 : c.Bd ≤ 1000000000)
    (h1 : -9007199254740992 ≤ lo) (h2 : lo ≤ 9007199254740992) (h3 : -9007199254740992 ≤ hi) (h4 : hi ≤ 9007199254740992) :
    Calls Try.prog 16 #[v, .int .i64 lo, .int .i64 hi] w fun e w' => e = .returned (.tuple #[.int .i64 (placeN c.P c.Bd lo hi), .bool (placeO c.Bd lo hi)]) ∧ Below w.heap.size w w' := by
  obtain ⟨s, r, rfl, _⟩ := h
  have hm := mid_bd lo hi h1 h2 h3 h4
  by_cases ho : hi - lo ≤ 2 * c.Bd
  · have e1 : placeO c.Bd lo hi = true := decide_eq_true ho
    have e2 : placeN c.P c.Bd lo hi = tk c.P (mid lo hi) := by unfold placeN; rw [if_pos e1]
    have E1 := Lib.hid e1
    have E2 := Lib.hid e2
    clear e1 e2
    generalize c.P = P at *
    generalize c.Bd = Bd at *
    go_enter Try.func16, Try.ntmps16
    go_wp2_with fail
    have hW : IntKind.i64.wrap (2 * Bd) = 2 * Bd := IntWalk.i64_in _ (by omega)
    go_region_held3 (fun w' => w'.cell? ⟨w.heap.size, 6, none⟩ = some (.int .i64 Bd) ∧ w'.cell? ⟨w.heap.size + 1, 0, none⟩ = some (.int .i64 lo) ∧ w'.cell? ⟨w.heap.size + 1, 1, none⟩ = some (.int .i64 hi)) (simp [go_sem, World.cell?_alloc_past]) (first | (go_at_call 22; refine (wide_any _ _ _ (by omega) (by omega)).mono ?_; rintro e w1 ⟨rfl, rfl⟩))
    all_goals
      go_wp2_with fail
      refine (middle_any _ _ _ h1 h2 h3 h4).mono ?_
      rintro e w2 ⟨rfl, hb2⟩
      go_wp2_with fail
      refine (nearM_any _ _ _ hp hp2 hm.1 hm.2).mono ?_
      rintro e w3 ⟨rfl, hb3⟩
      go_wp2
      go_ret2
      refine ⟨by simp [E1.out, E2.out], ?_⟩
      refine Below.trans (b := w2) ?_ (hb3.mono ?_)
      · refine Below.trans (b := _) ?_ (hb2.mono ?_)
        · go_grown
        · simp only [World.size_alloc, World.size_drew]; omega
      · have := hb2.size
        simp at this
        omega
  · have e1 : placeO c.Bd lo hi = false := decide_eq_false ho
    have e2 : placeN c.P c.Bd lo hi = 0 := by unfold placeN; rw [e1]; rfl
    have E1 := Lib.hid e1
    have E2 := Lib.hid e2
    clear e1 e2
    generalize c.P = P at *
    generalize c.Bd = Bd at *
    go_enter Try.func16, Try.ntmps16
    go_wp2_with fail
    have hW : IntKind.i64.wrap (2 * Bd) = 2 * Bd := IntWalk.i64_in _ (by omega)
    go_region_held3 (fun w' => w'.cell? ⟨w.heap.size, 6, none⟩ = some (.int .i64 Bd) ∧ w'.cell? ⟨w.heap.size + 1, 0, none⟩ = some (.int .i64 lo) ∧ w'.cell? ⟨w.heap.size + 1, 1, none⟩ = some (.int .i64 hi)) (simp [go_sem, World.cell?_alloc_past]) (first | (go_at_call 22; refine (wide_any _ _ _ (by omega) (by omega)).mono ?_; rintro e w1 ⟨rfl, rfl⟩))
    all_goals
      go_wp2
      go_ret2
      exact ⟨by simp [E1.out, E2.out], by go_grown⟩

theorem tk_step (p m : Int) (hp : 1 ≤ p) : tk p (m + p) = tk p m + 1 := by
  unfold tk
  rw [show 2 * (m + p) + p = 2 * m + p + 2 * p from by omega]
  unfold fl
  rw [Int.add_ediv_of_dvd_right (Int.dvd_refl _), Int.ediv_self (by omega)]
theorem tk_mono (p m n : Int) (hp : 1 ≤ p) (h : m ≤ n) : tk p m ≤ tk p n := Int.ediv_le_ediv (by omega) (by omega)
theorem tk_bd (p m : Int) (hp : 1 ≤ p) (hp2 : p ≤ 1000000) (h1 : -9007199254740992 ≤ m) (h2 : m ≤ 9007199254740992) : -4611686018427387904 ≤ tk p m ∧ tk p m ≤ 4611686018427387904 :=
  fl_bd _ _ (by omega) (by omega) (by omega)
/-- with k whole periods and r left -/
theorem tk_parts (p k r : Int) (hp : 1 ≤ p) (h0 : 0 ≤ r) (h1 : r < p) : tk p (p * k + r) = if 2 * r < p then k else k + 1 := by
  unfold tk fl
  split
  · rw [show 2 * (p * k + r) + p = (2 * r + p) + 2 * p * k from by rw [Int.mul_assoc]; omega, Int.add_mul_ediv_left _ _ (by omega), Int.ediv_eq_zero_of_lt (by omega) (by omega)]
    omega
  · have h2 : 2 * p * (k + 1) = 2 * (p * k) + 2 * p := by rw [Int.mul_add, Int.mul_assoc]; omega
    rw [show 2 * (p * k + r) + p = (2 * r - p) + 2 * p * (k + 1) from by rw [h2]; omega, Int.add_mul_ediv_left _ _ (by omega), Int.ediv_eq_zero_of_lt (by omega) (by omega)]
    omega
end Go.Proofs.Yteilgpijmldpjaa
