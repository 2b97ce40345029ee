/- Layer 14: the closures that tell the order. -/
import Derived.Test.YtgklbmhihfmagaaBatchE
import Derived.Handy
import Derived.Laws.EntriesVeiled
namespace Go.Proofs.Ytgklbmhihfmagaa
open Go.ChangeShapes Go.WideShapes Go.ChangeAt Go.RowKit Go.Deep
set_option linter.unusedVariables false
set_option linter.unusedSimpArgs false

set_option maxRecDepth 100000 in
set_option maxHeartbeats 4000000 in
theorem held_any (d1 c1 b1 s1 t1 k1 n1 : Int) (A1 : Option Addr) (m1 z1 : Nat) (x1 : ByteArray) (d2 c2 b2 s2 t2 k2 n2 : Int) (A2 : Option Addr) (m2 z2 : Nat) (x2 : ByteArray) (w : World) :
    Calls Try.prog 22 #[.iface 51 (.agg #[.int .i64 d1, .int .i64 c1, .int .i64 b1, .int .i64 s1, .int .i64 t1, .slice A1 m1 z1, .int .i64 k1, .int .i64 n1, .string x1]), .agg #[.int .i64 d2, .int .i64 c2, .int .i64 b2, .int .i64 s2, .int .i64 t2, .slice A2 m2 z2, .int .i64 k2, .int .i64 n2, .string x2]] w fun e w' => e = .returned (.int .i64 (cmp4 d1 k1 n1 d2 k2 n2 (bl x1) (bl x2))) ∧ Grew w w' := by
  have hc := fun W => against_any d1 c1 b1 s1 t1 k1 n1 A1 m1 z1 x1 d2 c2 b2 s2 t2 k2 n2 A2 m2 z2 x2 W
  generalize cmp4 d1 k1 n1 d2 k2 n2 (bl x1) (bl x2) = r at hc ⊢
  have HC := Lib.hid hc
  clear hc
  go_enter Try.func22, Try.ntmps22
  go_wp2_with fail
  refine calls_world (fun W => Grew w W) ((Grew.refl w).alloc _) fun W1 hg => ?_
  have HG := Lib.hid hg
  clear hg
  refine (HC.out W1).mono ?_
  rintro e W2 ⟨rfl, hk⟩
  have HK := Lib.hid (HG.out.trans hk)
  clear hk HG
  go_wp2
  go_ret
  exact ⟨by simp, HK.out⟩
set_option maxRecDepth 100000 in
set_option maxHeartbeats 4000000 in
theorem clos_any (d1 c1 b1 s1 t1 k1 n1 : Int) (A1 : Option Addr) (m1 z1 : Nat) (x1 : ByteArray) (d2 c2 b2 s2 t2 k2 n2 : Int) (A2 : Option Addr) (m2 z2 : Nat) (x2 : ByteArray) (B : Nat) (w : World) (hB : w.cell? ⟨B, 0, none⟩ = some (.func (.func 22) #[] #[])) (hb : B < w.heap.size) :
    Calls Try.prog 24 #[.agg #[.int .i64 d1, .int .i64 c1, .int .i64 b1, .int .i64 s1, .int .i64 t1, .slice A1 m1 z1, .int .i64 k1, .int .i64 n1, .string x1], .agg #[.int .i64 d2, .int .i64 c2, .int .i64 b2, .int .i64 s2, .int .i64 t2, .slice A2 m2 z2, .int .i64 k2, .int .i64 n2, .string x2], .pointer (some ⟨B, 0, none⟩)] w fun e w' => e = .returned (.int .i64 (cmp4 d1 k1 n1 d2 k2 n2 (bl x1) (bl x2))) ∧ Grew w w' := by
  have hc := fun W => held_any d1 c1 b1 s1 t1 k1 n1 A1 m1 z1 x1 d2 c2 b2 s2 t2 k2 n2 A2 m2 z2 x2 W
  generalize cmp4 d1 k1 n1 d2 k2 n2 (bl x1) (bl x2) = r at hc ⊢
  have HC := Lib.hid hc
  clear hc
  go_enter Try.func24, Try.ntmps24
  go_wp2_with fail
  refine calls_world (fun W => Grew w W) (((Grew.refl w).alloc _).alloc _) fun W1 hg => ?_
  have HG := Lib.hid hg
  clear hg
  refine (HC.out W1).mono ?_
  rintro e W2 ⟨rfl, hk⟩
  have HK := Lib.hid (HG.out.trans hk)
  clear hk HG
  go_wp2
  go_ret
  exact ⟨by simp, HK.out⟩
end Go.Proofs.Ytgklbmhihfmagaa
