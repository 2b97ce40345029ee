/- Layer 4: laws, walked. -/
import Derived.Test.YtnimialdccbdfaaPackI
import Derived.Test.YtnimialdccbdfaaOpen
namespace Go.Proofs.Ytnimialdccbdfaa
open Go.ChangeShapes Go.WideShapes Go.ChangeAt Go.RowKit Go.Deep
set_option linter.unusedVariables false
set_option linter.unusedSimpArgs false

theorem Bytes.shape {w : World} {v : Value} {bs : List Int} (h : Bytes w v bs) : ∃ A c, v = .slice A bs.length c ∧ bs.length ≤ c ∧ c ≤ 9223372036854775807 := by
  obtain ⟨⟨A, c, h1, h2, h3, _⟩, _⟩ := h
  rw [List.length_map] at h1 h2
  exact ⟨A, c, h1, h2, h3⟩

section
variable {H : Type} {enc : TypeId × Value → H} {w : World} {rch : Reach} {b0 : Nat}
/-- a packet that came in -/
theorem arg24_of_trod {v : Value} {d : DataW H} {p : List MemPlace} (hv : Value.okWide Try.prog w rch b0 24 v) (h : DataW.Trod enc Try.prog w 0 (fun _ => true) true 24 v d p) : ∃ q : Pk, PkV w v q := by
  obtain ⟨cs, n, rfl, hsz, hf⟩ := open_fields Try.underlying24 (by kernel_rfl) (by kernel_rfl) hv h
  obtain ⟨u0, y0, g0, t0⟩ := hf 0 _ rfl
  obtain ⟨u1, y1, g1, t1⟩ := hf 1 _ rfl
  obtain ⟨u2, y2, g2, t2⟩ := hf 2 _ rfl
  obtain ⟨u3, y3, g3, t3⟩ := hf 3 _ rfl
  obtain ⟨u4, y4, g4, t4⟩ := hf 4 _ rfl
  obtain ⟨u5, y5, g5, t5⟩ := hf 5 _ rfl
  obtain ⟨p0, e0, _, w0⟩ := DataW.trod_int Try.underlying3 t0
  obtain ⟨p1, e1, _, w1⟩ := DataW.trod_int Try.underlying3 t1
  obtain ⟨p2, e2, _, w2⟩ := DataW.trod_int Try.underlying3 t2
  obtain ⟨p3, e3, _, w3⟩ := DataW.trod_int Try.underlying3 t3
  obtain ⟨p4, e4, _, w4⟩ := DataW.trod_int Try.underlying3 t4
  simp at e0 e1 e2 e3 e4
  subst e0 e1 e2 e3 e4
  obtain ⟨zs, hzs⟩ := ints_of_trod1 Try.underlying22 Try.underlying3 (by kernel_rfl) t5
  have hcs : cs = #[.int .i64 p0, .int .i64 p1, .int .i64 p2, .int .i64 p3, .int .i64 p4, u5] := by
    obtain ⟨l⟩ := cs
    simp at hsz
    simp only [List.getElem?_toArray] at g0 g1 g2 g3 g4 g5
    match l, hsz with
    | [a0, a1, a2, a3, a4, a5], _ => simp at g0 g1 g2 g3 g4 g5; simp [*]
  exact ⟨⟨p0, p1, p2, p3, p4, zs⟩, u5, by rw [hcs], hzs⟩
end
def wit24 : Value := .agg #[.int .i64 0, .int .i64 0, .int .i64 0, .int .i64 0, .int .i64 0, .slice none 0 0]

set_option maxRecDepth 100000 in
set_option maxHeartbeats 400000 in
theorem walk_PackBack (v : Value) (p : Pk) (w : World) (h0 : PkV w v p) :
    Calls Try.prog 4 #[v] w fun e w' => e = .returned (.bool true) ∧ Below w.heap.size w w' := by
  obtain ⟨vs, rfl, hIP⟩ := h0
  obtain ⟨A, c, hsP, hcP, hcmP, _⟩ := hIP.shape
  subst hsP
  have hlzP : ((p.vals.length : Nat) : Int) ≤ 9223372036854775807 := by unfold maxLen at hcmP; omega
  have P0 := Lib.hid hIP
  clear hIP hcmP hcP
  go_enter Try.func4, Try.ntmps4
  go_wp2_with fail
  refine calls_world (fun W1 => Below w.heap.size w W1 ∧ Ints .i64 W1 (.slice A p.vals.length c) p.vals ∧ Blk W1 w.heap.size 24 #[.int .i64 p.dev, .int .i64 p.chan, .int .i64 p.boot, .int .i64 p.seq, .int .i64 p.stamp, .slice A p.vals.length c]) ⟨(by go_grown), (P0.out.below (by go_grown)), (Blk.new _ _ _ _ (by first | rfl | simp))⟩ fun W1 ⟨hb1, qP, qS⟩ => ?_
  have P1 := Lib.hid qP
  have S1 := Lib.hid qS
  (try clear cS); (try clear lS); (try clear dS)
  clear qP qS P0
  refine (head_any _).mono ?_
  rintro e W2 ⟨rfl, hk⟩
  have hb2 := hb1.trans (hk.mono hb1.size)
  have P2 := Lib.hid (P1.out.below hk)
  have S2 := Lib.hid (S1.out.below hk)
  (try clear cS); (try clear lS); (try clear dS)
  clear hk P1 S1 hb1
  have cS := S2.out.cells
  have lS := S2.out.lt
  by_cases hbig : 100 < p.vals.length
  · have g1 : decide (((p.vals.length : Nat) : Int) > 100) = true := decide_eq_true (by omega)
    go_wp2
    go_ret
    exact ⟨by first | rfl | simp, hb2⟩
  have g1 : decide (((p.vals.length : Nat) : Int) > 100) = false := decide_eq_false (by omega)
  go_wp2_with fail
  by_cases hr : p.right
  · have hd : decide p.right = true := decide_eq_true hr
    have HDL := Lib.hid (data_len p)
    have hr2 := hr.2.1
    have HR := Lib.hid hr
    clear hr
    refine (data_yes _ p _ ⟨_, rfl, P2.out⟩ HR.out).mono ?_
    rintro e W3 ⟨b, rfl, hB, hk⟩
    obtain ⟨BA, Bc, hbs, hBl, hBm⟩ := hB.shape
    subst hbs
    have hb3 := hb2.trans (hk.mono hb2.size)
    have P3 := Lib.hid (P2.out.below hk)
    have S3 := Lib.hid (S2.out.below hk)
    (try clear cS); (try clear lS); (try clear dS)
    clear hk P2 S2 hb2
    have B3 := Lib.hid (show Bytes W3 (.slice BA p.data.length Bc) p.data from hB)
    clear hB
    have cS := S3.out.cells
    have lS := S3.out.lt
    go_wp2_with fail
    refine (right_any _ p _ ⟨_, rfl, P3.out⟩).mono ?_
    rintro e W4 ⟨rfl, hk⟩
    have hb4 := hb3.trans (hk.mono hb3.size)
    have P4 := Lib.hid (P3.out.below hk)
    have S4 := Lib.hid (S3.out.below hk)
    have B4 := Lib.hid (B3.out.below hk)
    (try clear cS); (try clear lS); (try clear dS)
    clear hk P3 S3 B3 hb3
    rw [hd]
    have cS := S4.out.cells
    have lS := S4.out.lt
    go_wp2_with fail
    refine (unpack_ok _ p.data _ B4.out (by have := HDL.out; omega) (by have := HDL.out; omega) (by have := HDL.out; omega)).mono ?_
    rintro e W5 ⟨x, rfl, hX, hk⟩
    rw [ofB_data p HR.out] at hX
    obtain ⟨xs, rfl, hXI⟩ := hX
    obtain ⟨XA, Xc, hxs, _⟩ := hXI.shape
    subst hxs
    have hb5 := hb4.trans (hk.mono hb4.size)
    have P5 := Lib.hid (P4.out.below hk)
    have S5 := Lib.hid (S4.out.below hk)
    have B5 := Lib.hid (B4.out.below hk)
    (try clear cS); (try clear lS); (try clear dS)
    clear hk P4 S4 B4 hb4
    have X5 := Lib.hid (show Ints .i64 W5 (.slice XA p.vals.length Xc) p.vals from hXI)
    clear hXI
    have cS := S5.out.cells
    have lS := S5.out.lt
    go_wp2_with fail
    refine calls_world (fun W6 => Below w.heap.size w W6 ∧ Ints .i64 W6 (.slice A p.vals.length c) p.vals ∧ Blk W6 w.heap.size 24 #[.int .i64 p.dev, .int .i64 p.chan, .int .i64 p.boot, .int .i64 p.seq, .int .i64 p.stamp, .slice A p.vals.length c] ∧ Bytes W6 (.slice BA p.data.length Bc) p.data ∧ Ints .i64 W6 (.slice XA p.vals.length Xc) p.vals ∧ Blk W6 W5.heap.size 24 #[.int .i64 p.dev, .int .i64 p.chan, .int .i64 p.boot, .int .i64 p.seq, .int .i64 p.stamp, .slice XA p.vals.length Xc]) ⟨(hb5.trans ((show Below W5.heap.size W5 _ by go_grown).mono hb5.size)), (P5.out.below (by go_grown)), (S5.out.below (by go_grown)), (B5.out.below (by go_grown)), (X5.out.below (by go_grown)), (Blk.new _ _ _ _ (by first | rfl | simp))⟩ fun W6 ⟨hb6, qP, qS, qB, qX, qT⟩ => ?_
    have P6 := Lib.hid qP
    have S6 := Lib.hid qS
    have B6 := Lib.hid qB
    have X6 := Lib.hid qX
    have T6 := Lib.hid qT
    (try clear cS); (try clear lS); (try clear dS); (try clear cT); (try clear lT); (try clear dT)
    clear qP qS qB qX qT P5 S5 B5 X5 hb5
    refine (same_pk _ _ p p _ ⟨_, rfl, P6.out⟩ ⟨_, rfl, X6.out⟩).mono ?_
    rintro e W7 ⟨rfl, hk⟩
    have hb7 := hb6.trans (hk.mono hb6.size)
    have P7 := Lib.hid (P6.out.below hk)
    have S7 := Lib.hid (S6.out.below hk)
    have B7 := Lib.hid (B6.out.below hk)
    have X7 := Lib.hid (X6.out.below hk)
    have T7 := Lib.hid (T6.out.below hk)
    (try clear cS); (try clear lS); (try clear dS); (try clear cT); (try clear lT); (try clear dT)
    clear hk P6 S6 B6 X6 T6 hb6
    have cS := S7.out.cells
    have lS := S7.out.lt
    have cT := T7.out.cells
    have lT := T7.out.lt
    rw [show decide (p = p) = true from decide_eq_true rfl]
    have hdq : ((p.data.length : Int) == 10 + 2 * (p.vals.length : Int)) = true := by have := HDL.out; simp; omega
    go_wp2
    go_ret
    exact ⟨by first | rfl | simp, hb7⟩
  · have hd : decide p.right = false := decide_eq_false hr
    refine (data_no _ p _ ⟨_, rfl, P2.out⟩ hr).mono ?_
    rintro e W3 ⟨rfl, hk⟩
    have hb3 := hb2.trans (hk.mono hb2.size)
    have P3 := Lib.hid (P2.out.below hk)
    have S3 := Lib.hid (S2.out.below hk)
    (try clear cS); (try clear lS); (try clear dS)
    clear hk P2 S2 hb2
    have cS := S3.out.cells
    have lS := S3.out.lt
    go_wp2_with fail
    refine (right_any _ p _ ⟨_, rfl, P3.out⟩).mono ?_
    rintro e W4 ⟨rfl, hk⟩
    have hb4 := hb3.trans (hk.mono hb3.size)
    have P4 := Lib.hid (P3.out.below hk)
    have S4 := Lib.hid (S3.out.below hk)
    (try clear cS); (try clear lS); (try clear dS)
    clear hk P3 S3 hb3
    rw [hd]
    have cS := S4.out.cells
    have lS := S4.out.lt
    go_wp2
    go_ret
    exact ⟨by first | rfl | simp, hb4⟩
end Go.Proofs.Ytnimialdccbdfaa
