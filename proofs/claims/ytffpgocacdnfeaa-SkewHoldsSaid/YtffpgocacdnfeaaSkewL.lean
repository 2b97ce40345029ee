/- Layer 10: what a packet leaves of an estimate. -/
import Derived.Test.YtffpgocacdnfeaaSkewT
namespace Go.Proofs.Ytffpgocacdnfeaa
open Go.ChangeShapes Go.WideShapes Go.ChangeAt Go.RowKit
set_option linter.unusedVariables false
set_option linter.unusedSimpArgs false

set_option maxRecDepth 100000 in
set_option maxHeartbeats 2000000 in
theorem look_any (v : Value) (c : Cf) (on : Bool) (a lo hi e t : Int) (w : World) (h : IsConf w v c) (hp : 1 ≤ c.P ∧ c.P ≤ 1000000) (hm : 0 ≤ c.Mn ∧ c.Mn ≤ 1000000000) (hx : 0 ≤ c.Mx ∧ c.Mx ≤ 1000000000) (hr : 0 ≤ c.Rho ∧ c.Rho ≤ 100000)
    (he : 0 ≤ e ∧ e ≤ 2199023255552) (ht : 0 ≤ t ∧ t ≤ 1073741824) (ha : on = true → 0 ≤ a ∧ a ≤ 2199023255552) (hl : on = true → -4503599627370496 ≤ lo ∧ lo ≤ 4503599627370496) (hh : on = true → -4503599627370496 ≤ hi ∧ hi ≤ 4503599627370496) :
    Calls Try.prog 13 #[v, .agg #[.bool on, .int .i64 a, .int .i64 lo, .int .i64 hi], .int .i64 e, .int .i64 t] w fun z w' => z = .returned (.tuple #[.agg #[.bool true, .int .i64 e, .int .i64 (lookLo c on a lo hi e t), .int .i64 (lookHi c on a lo hi e t)], .bool (lookO c on a lo hi e t)]) ∧ Below w.heap.size w w' := by
  obtain ⟨s, r, rfl, _⟩ := h
  have hb := told_bd c e t hp hm hx he ht
  cases on
  · have E1 := Lib.hid (show lookO c false a lo hi e t = true from rfl)
    have E2 := Lib.hid (show lookLo c false a lo hi e t = toldLo c e t from rfl)
    have E3 := Lib.hid (show lookHi c false a lo hi e t = toldHi c e t from rfl)
    go_enter Try.func13, Try.ntmps13
    go_wp2_with fail
    refine (told_x c s r e t _ hp hm hx he ht).mono ?_
    rintro z w1 ⟨rfl, n, rfl⟩
    go_wp2
    go_returns
    refine ⟨by simp [E1.out, E2.out, E3.out], ?_⟩
    go_grown
    all_goals refine Bdrew ?_ _
    all_goals go_grown
  · have ha' := ha rfl
    have hl' := hl rfl
    have hh' := hh rfl
    clear ha hl hh
    have hd0 := drf_nonneg c.Rho (e - a) hr.1
    have hd1 := drf_size c.Rho (e - a) hr.1 (by omega) (by omega) (by omega)
    have E1 := Lib.hid (show lookO c true a lo hi e t = decide (max (lo - drf c.Rho (e - a)) (toldLo c e t) ≤ min (hi + drf c.Rho (e - a)) (toldHi c e t)) from rfl)
    have E2 := Lib.hid (show lookLo c true a lo hi e t = if true = true ∧ lookO c true a lo hi e t = true then max (lo - drf c.Rho (e - a)) (toldLo c e t) else toldLo c e t from rfl)
    have E3 := Lib.hid (show lookHi c true a lo hi e t = if true = true ∧ lookO c true a lo hi e t = true then min (hi + drf c.Rho (e - a)) (toldHi c e t) else toldHi c e t from rfl)
    go_enter Try.func13, Try.ntmps13
    go_wp2_with fail
    refine (told_x c s r e t _ hp hm hx he ht).mono ?_
    rintro z w1 ⟨rfl, n, rfl⟩
    go_wp2_with fail
    go_region_held3 (fun w' => w'.cell? ⟨w.heap.size + 1, 0, none⟩ = some (.bool true) ∧ w'.cell? ⟨w.heap.size + 1, 1, none⟩ = some (.int .i64 a) ∧ w'.cell? ⟨w.heap.size + 1, 2, none⟩ = some (.int .i64 lo) ∧ w'.cell? ⟨w.heap.size + 1, 3, none⟩ = some (.int .i64 hi) ∧
      w'.cell? ⟨w.heap.size, 5, none⟩ = some (.int .i64 c.Rho) ∧ w'.cell? ⟨w.heap.size + 1 + 1 + 1 + 1, 0, none⟩ = some (.bool true) ∧ w'.cell? ⟨w.heap.size + 1 + 1 + 1 + 1, 1, none⟩ = some (.int .i64 e) ∧
      w'.cell? ⟨w.heap.size + 1 + 1 + 1 + 1, 2, none⟩ = some (.int .i64 (toldLo c e t)) ∧ w'.cell? ⟨w.heap.size + 1 + 1 + 1 + 1, 3, none⟩ = some (.int .i64 (toldHi c e t))) (simp [go_sem, World.cell?_alloc_past])
      (first | (go_at_call 23; refine (at_any _ _ _ _ _ _ _ ⟨hr.1, by omega⟩ (by omega) hl' hh' (by omega)).mono ?_; rintro z w1 ⟨rfl, rfl⟩) | (go_at_call 24; refine (shared_any _ _ _ _ _ _ _ _ _ (by omega) (by omega)).mono ?_; rintro z w1 ⟨rfl, rfl⟩))
    all_goals
      by_cases hcmp : max (lo - drf c.Rho (e - a)) (toldLo c e t) ≤ min (hi + drf c.Rho (e - a)) (toldHi c e t)
      · have ho : lookO c true a lo hi e t = true := by rw [E1.out]; exact decide_eq_true hcmp
        have e2 : lookLo c true a lo hi e t = max (lo - drf c.Rho (e - a)) (toldLo c e t) := by rw [E2.out, if_pos ⟨trivial, ho⟩]
        have e3 : lookHi c true a lo hi e t = min (hi + drf c.Rho (e - a)) (toldHi c e t) := by rw [E3.out, if_pos ⟨trivial, ho⟩]
        have HO := Lib.hid ho
        have H2 := Lib.hid e2
        have H3 := Lib.hid e3
        clear ho e2 e3
        go_wp2
        go_returns
        refine ⟨by simp [HO.out, H2.out, H3.out], ?_⟩
        go_grown
        all_goals refine Bdrew ?_ _
        all_goals go_grown
      · have ho : lookO c true a lo hi e t = false := by rw [E1.out]; exact decide_eq_false hcmp
        have e2 : lookLo c true a lo hi e t = toldLo c e t := by rw [E2.out, ho, if_neg (by simp)]
        have e3 : lookHi c true a lo hi e t = toldHi c e t := by rw [E3.out, ho, if_neg (by simp)]
        have HO := Lib.hid ho
        have H2 := Lib.hid e2
        have H3 := Lib.hid e3
        clear ho e2 e3
        go_wp2
        go_returns
        refine ⟨by simp [HO.out, H2.out, H3.out], ?_⟩
        go_grown
        all_goals refine Bdrew ?_ _
        all_goals go_grown
end Go.Proofs.Ytffpgocacdnfeaa
