/- Layer 4: laws, walked. -/
import Derived.Test.YtnimialdccbdfaaPackJ
namespace Go.Proofs.Ytnimialdccbdfaa
open Go.ChangeShapes Go.WideShapes Go.ChangeAt Go.RowKit Go.Deep
set_option linter.unusedVariables false
set_option linter.unusedSimpArgs false

set_option maxRecDepth 100000 in
set_option maxHeartbeats 400000 in
theorem walk_PackPrints (v : Value) (bs : List Int) (w : World) (h0 : Ints .u8 w v bs) :
    Calls Try.prog 5 #[v] w fun e w' => e = .returned (.bool true) ∧ Below w.heap.size w w' := by
  obtain ⟨A, c, hs, hc, hcm⟩ := h0.bytes.shape
  subst hs
  have hlz : ((bs.length : Nat) : Int) ≤ 9223372036854775807 := by omega
  have B0 := Lib.hid h0.bytes
  clear h0 hcm hc
  go_enter Try.func5, Try.ntmps5
  go_wp2_with fail
  refine (head_any _).mono ?_
  rintro e W1 ⟨rfl, hk⟩
  have hb1 := hk
  have B1 := Lib.hid (B0.out.below hk)
  clear hk B0
  by_cases hbig : 100 < bs.length
  · have g1 : decide (((bs.length : Nat) : Int) > 100) = true := decide_eq_true (by omega)
    go_wp2
    go_ret
    exact ⟨by first | rfl | simp, hb1⟩
  have g1 : decide (((bs.length : Nat) : Int) > 100) = false := decide_eq_false (by omega)
  go_wp2_with fail
  by_cases hok : 12 ≤ bs.length ∧ bs.length ≤ 26 ∧ bs.length % 2 = 0
  · obtain ⟨k1, k2, k3⟩ := hok
    obtain ⟨hbd, hbr⟩ := data_ofB bs k1 k2 k3 B1.out.2
    have HBD := Lib.hid hbd
    have HBR := Lib.hid hbr
    clear hbd hbr
    refine (unpack_ok _ bs _ B1.out k1 k2 k3).mono ?_
    rintro e W2 ⟨x, rfl, hX, hk⟩
    generalize ofB bs = p at *
    obtain ⟨xs, rfl, hXI⟩ := hX
    obtain ⟨XA, Xc, hxs, _⟩ := hXI.shape
    subst hxs
    have hb2 := hb1.trans (hk.mono hb1.size)
    have B2 := Lib.hid (B1.out.below hk)
    clear hk B1 hb1
    have X2 := Lib.hid (show Ints .i64 W2 (.slice XA p.vals.length Xc) p.vals from hXI)
    clear hXI
    go_wp2_with fail
    refine calls_world (fun W3 => Below w.heap.size w W3 ∧ Bytes W3 (.slice A bs.length c) bs ∧ Ints .i64 W3 (.slice XA p.vals.length Xc) p.vals ∧ Blk W3 W2.heap.size 24 #[.int .i64 p.dev, .int .i64 p.chan, .int .i64 p.boot, .int .i64 p.seq, .int .i64 p.stamp, .slice XA p.vals.length Xc]) ⟨(hb2.trans ((show Below W2.heap.size W2 _ by go_grown).mono hb2.size)), (B2.out.below (by go_grown)), (X2.out.below (by go_grown)), (Blk.new _ _ _ _ (by first | rfl | simp))⟩ fun W3 ⟨hb3, qB, qX, qT⟩ => ?_
    have B3 := Lib.hid qB
    have X3 := Lib.hid qX
    have T3 := Lib.hid qT
    (try clear cT); (try clear lT); (try clear dT)
    clear qB qX qT B2 X2 hb2
    refine (data_yes _ p _ ⟨_, rfl, X3.out⟩ HBR.out).mono ?_
    rintro e W4 ⟨b, rfl, hC, hk⟩
    rw [HBD.out] at hC
    have hb4 := hb3.trans (hk.mono hb3.size)
    have B4 := Lib.hid (B3.out.below hk)
    have X4 := Lib.hid (X3.out.below hk)
    have T4 := Lib.hid (T3.out.below hk)
    (try clear cT); (try clear lT); (try clear dT)
    clear hk B3 X3 T3 hb3
    have C4 := Lib.hid (show Bytes W4 b bs from hC)
    clear hC
    have cT := T4.out.cells
    have lT := T4.out.lt
    go_wp2_with fail
    refine (same_any _ _ bs bs _ B4.out C4.out).mono ?_
    rintro e w1 ⟨rfl, rfl⟩
    rw [show decide (bs = bs) = true from decide_eq_true rfl]
    go_wp2_with fail
    refine (right_any _ p _ ⟨_, rfl, X4.out⟩).mono ?_
    rintro e W5 ⟨rfl, hk⟩
    have hb5 := hb4.trans (hk.mono hb4.size)
    have B5 := Lib.hid (B4.out.below hk)
    have X5 := Lib.hid (X4.out.below hk)
    have T5 := Lib.hid (T4.out.below hk)
    have C5 := Lib.hid (C4.out.below hk)
    (try clear cT); (try clear lT); (try clear dT)
    clear hk B4 X4 T4 C4 hb4
    rw [show decide p.right = true from decide_eq_true HBR.out]
    have q1 : decide (((bs.length : Nat) : Int) ≥ 12) = true := decide_eq_true (by omega)
    have q2 : decide (((bs.length : Nat) : Int) ≤ 26) = true := decide_eq_true (by omega)
    have q3 : ((bs.length : Nat) : Int) % 2 = 0 := by omega
    go_wp2
    go_ret
    exact ⟨by first | rfl | simp, hb5⟩
  · refine (unpack_bad _ bs _ B1.out hok).mono ?_
    rintro e W2 ⟨rfl, hk⟩
    have hb2 := hb1.trans (hk.mono hb1.size)
    have B2 := Lib.hid (B1.out.below hk)
    clear hk B1 hb1
    by_cases c12 : bs.length < 12
    · rw [show badCode bs.length = 2 from if_pos c12]
      go_wp2_with fail
      refine calls_world (fun W3 => Below w.heap.size w W3 ∧ Bytes W3 (.slice A bs.length c) bs ∧ Blk W3 W2.heap.size 24 #[.int .i64 0, .int .i64 0, .int .i64 0, .int .i64 0, .int .i64 0, .slice none 0 0]) ⟨(hb2.trans ((show Below W2.heap.size W2 _ by go_grown).mono hb2.size)), (B2.out.below (by go_grown)), (Blk.new _ _ _ _ (by first | rfl | simp))⟩ fun W3 ⟨hb3, qB, qT⟩ => ?_
      have B3 := Lib.hid qB
      have T3 := Lib.hid qT
      (try clear cT); (try clear lT); (try clear dT)
      clear qB qT B2 hb2
      refine (same_pk _ _ Pk.zero Pk.zero _ pkzero pkzero).mono ?_
      rintro e W4 ⟨rfl, hk⟩
      have hb4 := hb3.trans (hk.mono hb3.size)
      have B4 := Lib.hid (B3.out.below hk)
      have T4 := Lib.hid (T3.out.below hk)
      (try clear cT); (try clear lT); (try clear dT)
      clear hk B3 T3 hb3
      rw [show decide (Pk.zero = Pk.zero) = true from decide_eq_true rfl]
      have q1 : decide (((bs.length : Nat) : Int) < 12) = true := decide_eq_true (by omega)
      go_wp2
      go_ret
      exact ⟨by first | rfl | simp, hb4⟩
    by_cases c26 : bs.length > 26
    · rw [show badCode bs.length = 3 from by unfold badCode; rw [if_neg c12, if_pos c26]]
      go_wp2_with fail
      refine calls_world (fun W3 => Below w.heap.size w W3 ∧ Bytes W3 (.slice A bs.length c) bs ∧ Blk W3 W2.heap.size 24 #[.int .i64 0, .int .i64 0, .int .i64 0, .int .i64 0, .int .i64 0, .slice none 0 0]) ⟨(hb2.trans ((show Below W2.heap.size W2 _ by go_grown).mono hb2.size)), (B2.out.below (by go_grown)), (Blk.new _ _ _ _ (by first | rfl | simp))⟩ fun W3 ⟨hb3, qB, qT⟩ => ?_
      have B3 := Lib.hid qB
      have T3 := Lib.hid qT
      (try clear cT); (try clear lT); (try clear dT)
      clear qB qT B2 hb2
      refine (same_pk _ _ Pk.zero Pk.zero _ pkzero pkzero).mono ?_
      rintro e W4 ⟨rfl, hk⟩
      have hb4 := hb3.trans (hk.mono hb3.size)
      have B4 := Lib.hid (B3.out.below hk)
      have T4 := Lib.hid (T3.out.below hk)
      (try clear cT); (try clear lT); (try clear dT)
      clear hk B3 T3 hb3
      rw [show decide (Pk.zero = Pk.zero) = true from decide_eq_true rfl]
      have q1 : decide (((bs.length : Nat) : Int) < 12) = false := decide_eq_false (by omega)
      have q2 : decide (((bs.length : Nat) : Int) > 26) = true := decide_eq_true (by omega)
      go_wp2
      go_ret
      exact ⟨by first | rfl | simp, hb4⟩
    rw [show badCode bs.length = 4 from by unfold badCode; rw [if_neg c12, if_neg c26]]
    go_wp2_with fail
    refine calls_world (fun W3 => Below w.heap.size w W3 ∧ Bytes W3 (.slice A bs.length c) bs ∧ Blk W3 W2.heap.size 24 #[.int .i64 0, .int .i64 0, .int .i64 0, .int .i64 0, .int .i64 0, .slice none 0 0]) ⟨(hb2.trans ((show Below W2.heap.size W2 _ by go_grown).mono hb2.size)), (B2.out.below (by go_grown)), (Blk.new _ _ _ _ (by first | rfl | simp))⟩ fun W3 ⟨hb3, qB, qT⟩ => ?_
    have B3 := Lib.hid qB
    have T3 := Lib.hid qT
    (try clear cT); (try clear lT); (try clear dT)
    clear qB qT B2 hb2
    refine (same_pk _ _ Pk.zero Pk.zero _ pkzero pkzero).mono ?_
    rintro e W4 ⟨rfl, hk⟩
    have hb4 := hb3.trans (hk.mono hb3.size)
    have B4 := Lib.hid (B3.out.below hk)
    have T4 := Lib.hid (T3.out.below hk)
    (try clear cT); (try clear lT); (try clear dT)
    clear hk B3 T3 hb3
    rw [show decide (Pk.zero = Pk.zero) = true from decide_eq_true rfl]
    have q1 : decide (((bs.length : Nat) : Int) < 12) = false := decide_eq_false (by omega)
    have q2 : decide (((bs.length : Nat) : Int) > 26) = false := decide_eq_false (by omega)
    have q3 : ((bs.length : Nat) : Int) % 2 = 1 := by omega
    have q4 : decide (((bs.length : Nat) : Int) ≥ 12) = true := decide_eq_true (by omega)
    have q5 : decide (((bs.length : Nat) : Int) ≤ 26) = true := decide_eq_true (by omega)
    go_wp2
    go_ret
    exact ⟨by first | rfl | simp, hb4⟩
end Go.Proofs.Ytnimialdccbdfaa
