/- Layer 20: laws, walked. -/
import Derived.Test.YtaegkeafikkijaaTechM
namespace Go.Proofs.Ytaegkeafikkijaa
open Go.ChangeShapes Go.WideShapes Go.ChangeAt Go.RowKit
set_option linter.unusedVariables false
set_option linter.unusedSimpArgs false

theorem rightT_bd {k : Int} {s : Te} (hr : rightT k s = true) : 0 ≤ s.run ∧ s.run ≤ k := by
  rw [rightT_iff] at hr
  exact ⟨hr.1, hr.2.1⟩
theorem neqT (w : World) (a : Int) (b c d : Bool) : (binOp .neq 23 (.agg #[.int .i64 a, .bool b, .bool c, .bool d]) (.agg #[.int .i64 a, .bool b, .bool c, .bool d])).run Try.prog w = .ok (.bool false) w := by
  have hu : Try.prog.underlying 23 = some (.struct (Try.prog.fieldsOf 23)) := by kernel_rfl
  have hs : Try.prog.stoodInHeld 23 = false := by kernel_rfl
  have ui := Try.underlying3
  have ub := Try.underlying4
  rw [run_neq_struct, run_equalIn_struct _ _ _ _ _ hu hs]
  simp [Program.fieldsOf, Try.underlying23, Op.eqFields, ui, ub, part, go_sem]
theorem guardT : Try.prog.eqGuardType Try.prog.depth 23 = false := by kernel_rfl

set_option maxRecDepth 100000 in
set_option maxHeartbeats 4000000 in
theorem walk_TechRight (n : Int) (r : Int) (o nw q : Bool) (x y : Bool) (w : World) (w0 : (Lit.int .u8 n).wf = true) (w1 : (Lit.int .i64 r).wf = true) :
    Calls Try.prog 4 #[.int .u8 n, .agg #[.int .i64 r, .bool o, .bool nw, .bool q], .bool x, .bool y] w fun e w' => e = .returned (.bool true) ∧ Below w.heap.size w w' := by
  have bn := bounds_u8 w0
  have hn0 : 1 ≤ n % 6 + 1 ∧ n % 6 + 1 ≤ 6 := by omega
  clear w0 w1
  go_enter Try.func4, Try.ntmps4
  go_wp2_with fail
  refine calls_world (fun W1 => Below w.heap.size w W1 ∧ Blk W1 w.heap.size 23 #[.int .i64 r, .bool o, .bool nw, .bool q]) ⟨(by go_grown), (Blk.new _ _ _ _ (by first | rfl | simp))⟩ fun W1 ⟨hb1, qS⟩ => ?_
  have S1 := Lib.hid qS
  (try clear cS); (try clear lS); (try clear dS)
  clear qS
  refine (head_any _).mono ?_
  rintro e W2 ⟨rfl, hk⟩
  have hb2 := hb1.trans (hk.mono hb1.size)
  have S2 := Lib.hid (S1.out.below hk)
  (try clear cS); (try clear lS); (try clear dS)
  clear hk S1 hb1
  go_wp2_with fail
  refine (limit_any n _ bn.1 bn.2).mono ?_
  rintro e W3 ⟨rfl, hk⟩
  have hb3 := hb2.trans (hk.mono hb2.size)
  have S3 := Lib.hid (S2.out.below hk)
  (try clear cS); (try clear lS); (try clear dS)
  clear hk S2 hb2
  generalize n % 6 + 1 = k at *
  go_wp2_with fail
  have hz := right_zero k hn0.1
  refine (tright_any k ⟨0, false, false, false⟩ _).mono ?_
  rintro e W4 ⟨rfl, hk⟩
  have hb4 := hb3.trans (hk.mono hb3.size)
  have S4 := Lib.hid (S3.out.below hk)
  (try clear cS); (try clear lS); (try clear dS)
  clear hk S3 hb3
  rw [hz]
  clear hz
  have cS := S4.out.cells
  have lS := S4.out.lt
  go_wp2_with fail
  refine (tright_any k ⟨r, o, nw, q⟩ _).mono ?_
  rintro e W5 ⟨rfl, hk⟩
  have hb5 := hb4.trans (hk.mono hb4.size)
  have S5 := Lib.hid (S4.out.below hk)
  (try clear cS); (try clear lS); (try clear dS)
  clear hk S4 hb4
  have cS := S5.out.cells
  have lS := S5.out.lt
  rcases hr : rightT k ⟨r, o, nw, q⟩ with _ | _
  · go_wp2
    go_ret
    exact ⟨by simp, hb5⟩
  · have rb := rightT_bd hr
    simp only at rb
    go_wp2_with fail
    refine (tstep_any k ⟨r, o, nw, q⟩ x y _ rb.1 (show r ≤ 4611686018427387904 by omega)).mono ?_
    rintro e W6 ⟨rfl, hk⟩
    have hb6 := hb5.trans (hk.mono hb5.size)
    have S6 := Lib.hid (S5.out.below hk)
    (try clear cS); (try clear lS); (try clear dS)
    clear hk S5 hb5
    go_wp2_with fail
    have hz := right_step k _ x y hn0.1 hr
    refine (tright_any k (tstep k ⟨r, o, nw, q⟩ x y) _).mono ?_
    rintro e W7 ⟨rfl, hk⟩
    have hb7 := hb6.trans (hk.mono hb6.size)
    have S7 := Lib.hid (S6.out.below hk)
    (try clear cS); (try clear lS); (try clear dS)
    clear hk S6 hb6
    rw [hz]
    clear hz
    go_wp2
    go_ret
    exact ⟨by simp, hb7⟩
end Go.Proofs.Ytaegkeafikkijaa
