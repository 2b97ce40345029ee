/- Layer 10: what a packet tells, and the world behind it. -/
import Derived.Test.YtffpgocacdnfeaaSkew
namespace Go.Proofs.Ytffpgocacdnfeaa
open Go.ChangeShapes Go.WideShapes Go.ChangeAt Go.RowKit
set_option linter.unusedVariables false
set_option linter.unusedSimpArgs false

set_option maxHeartbeats 1000000 in
theorem told_x (c : Cf) (s r : Value) (e t : Int) (w : World) (hp : 1 ≤ c.P ∧ c.P ≤ 1000000) (hm : 0 ≤ c.Mn ∧ c.Mn ≤ 1000000000) (hx : 0 ≤ c.Mx ∧ c.Mx ≤ 1000000000) (he : 0 ≤ e ∧ e ≤ 2199023255552) (ht : 0 ≤ t ∧ t ≤ 1073741824) :
    Calls Try.prog 18 #[.agg #[.int .i64 c.P, .int .i64 c.H, .int .i64 c.C, .int .i64 c.Mn, .int .i64 c.Mx, .int .i64 c.Rho, .int .i64 c.Bd, .int .i64 c.Win, .int .i64 c.St, s, r], .int .i64 e, .int .i64 t] w fun z w' => z = .returned (.tuple #[.int .i64 (toldLo c e t), .int .i64 (toldHi c e t)]) ∧ ∃ n, (w.alloc (.cells #[.int .i64 c.P, .int .i64 c.H, .int .i64 c.C, .int .i64 c.Mn, .int .i64 c.Mx, .int .i64 c.Rho, .int .i64 c.Bd, .int .i64 c.Win, .int .i64 c.St, s, r] 25)).drewN n = w' := by
  have H1 := Lib.hid (show toldLo c e t = (t - 1) * c.P + 1 - c.Mx - e from rfl)
  have H2 := Lib.hid (show toldHi c e t = t * c.P - c.Mn - e from rfl)
  have b1 : -1000000 ≤ (t - 1) * c.P ∧ (t - 1) * c.P ≤ 1073741824000000 := by
    rcases (by omega : t = 0 ∨ 1 ≤ t) with h0 | h0
    · subst h0; omega
    · have a1 := Int.mul_nonneg (show 0 ≤ t - 1 by omega) (show 0 ≤ c.P by omega)
      have a2 : (t - 1) * c.P ≤ 1073741824 * 1000000 := Int.mul_le_mul (by omega) (by omega) (by omega) (by omega)
      omega
  have b2 : 0 ≤ t * c.P ∧ t * c.P ≤ 1073741824000000 := by
    have a1 := Int.mul_nonneg (show 0 ≤ t by omega) (show 0 ≤ c.P by omega)
    have a2 : t * c.P ≤ 1073741824 * 1000000 := Int.mul_le_mul (by omega) (by omega) (by omega) (by omega)
    omega
  have k1 : IntKind.i64.wrap (t - 1) = t - 1 := IntWalk.i64_in _ (by omega)
  have k2 : IntKind.i64.wrap ((t - 1) * c.P) = (t - 1) * c.P := IntWalk.i64_in _ (by omega)
  have k3 : IntKind.i64.wrap ((t - 1) * c.P + 1) = (t - 1) * c.P + 1 := IntWalk.i64_in _ (by omega)
  have k4 : IntKind.i64.wrap ((t - 1) * c.P + 1 - c.Mx) = (t - 1) * c.P + 1 - c.Mx := IntWalk.i64_in _ (by omega)
  have k5 : IntKind.i64.wrap ((t - 1) * c.P + 1 - c.Mx - e) = (t - 1) * c.P + 1 - c.Mx - e := IntWalk.i64_in _ (by omega)
  have k6 : IntKind.i64.wrap (t * c.P) = t * c.P := IntWalk.i64_in _ (by omega)
  have k7 : IntKind.i64.wrap (t * c.P - c.Mn) = t * c.P - c.Mn := IntWalk.i64_in _ (by omega)
  have k8 : IntKind.i64.wrap (t * c.P - c.Mn - e) = t * c.P - c.Mn - e := IntWalk.i64_in _ (by omega)
  go_enter Try.func18, Try.ntmps18
  go_wp2_with fail
  go_quiet (fail)
  go_wp2
  go_ret2
  exact ⟨by simp [H1.out, H2.out], _, rfl⟩

end Go.Proofs.Ytffpgocacdnfeaa
