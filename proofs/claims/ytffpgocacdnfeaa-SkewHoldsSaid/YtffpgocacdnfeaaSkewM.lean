/- Layer 10: laws, walked. -/
import Derived.Test.YtffpgocacdnfeaaSkewH
namespace Go.Proofs.Ytffpgocacdnfeaa
open Go.ChangeShapes Go.WideShapes Go.ChangeAt Go.RowKit Go.Deep
set_option linter.unusedVariables false
set_option linter.unusedSimpArgs false

section
variable {H : Type} {enc : TypeId × Value → H} {w : World} {rch : Reach} {b0 : Nat}
theorem est_of_trod {v : Value} {d : DataW H} {p : List MemPlace} (hv : Value.okWide Try.prog w rch b0 31 v) (h : DataW.Trod enc Try.prog w 0 (fun _ => true) true 31 v d p) :
    ∃ (o : Bool) (a l g : Int), v = .agg #[.bool o, .int .i64 a, .int .i64 l, .int .i64 g] ∧ (Lit.int .i64 a).wf = true ∧ (Lit.int .i64 l).wf = true ∧ (Lit.int .i64 g).wf = true := by
  obtain ⟨cs, n, rfl, hsz, hf⟩ := open_fields Try.underlying31 (by kernel_rfl) (by kernel_rfl) hv h
  obtain ⟨u0, y0, g0, t0⟩ := hf 0 _ rfl
  obtain ⟨u1, y1, g1, t1⟩ := hf 1 _ rfl
  obtain ⟨u2, y2, g2, t2⟩ := hf 2 _ rfl
  obtain ⟨u3, y3, g3, t3⟩ := hf 3 _ rfl
  obtain ⟨p0, e0, _⟩ := DataW.trod_bool Try.underlying4 t0
  obtain ⟨p1, e1, _, w1⟩ := DataW.trod_int Try.underlying3 t1
  obtain ⟨p2, e2, _, w2⟩ := DataW.trod_int Try.underlying3 t2
  obtain ⟨p3, e3, _, w3⟩ := DataW.trod_int Try.underlying3 t3
  simp at e0 e1 e2 e3
  subst e0 e1 e2 e3
  have hcs : cs = #[.bool p0, .int .i64 p1, .int .i64 p2, .int .i64 p3] := by
    obtain ⟨l⟩ := cs
    simp at hsz
    simp only [List.getElem?_toArray] at g0 g1 g2 g3
    match l, hsz with
    | [a0, a1, a2, a3], _ => simp at g0 g1 g2 g3; simp [*]
  exact ⟨p0, p1, p2, p3, by rw [hcs], w1, w2, w3⟩
end

def timeB (x : Int) : Bool := decide (0 ≤ x ∧ x ≤ 2199023255552)
def tickB (x : Int) : Bool := decide (0 ≤ x ∧ x ≤ 1073741824)
theorem timeP {x : Int} (h : timeB x = true) : 0 ≤ x ∧ x ≤ 2199023255552 := by unfold timeB at h; simpa using h
theorem tickP {x : Int} (h : tickB x = true) : 0 ≤ x ∧ x ≤ 1073741824 := by unfold tickB at h; simpa using h
theorem time_any (x : Int) (w : World) :
    Calls Try.prog 16 #[.int .i64 x] w fun e w' => e = .returned (.bool (timeB x)) ∧ w = w' := by
  go_enter Try.func16, Try.ntmps16
  go_wp2
  all_goals
    go_ret
    refine ⟨ret_bool ?_, rfl⟩
    unfold timeB
    rw [Bool.eq_iff_iff]
    simp only [decide_eq_true_eq, Bool.false_eq_true]
    first | omega | (constructor <;> intro h <;> first | omega | exact h.elim)
theorem tick_any (x : Int) (w : World) :
    Calls Try.prog 17 #[.int .i64 x] w fun e w' => e = .returned (.bool (tickB x)) ∧ w = w' := by
  go_enter Try.func17, Try.ntmps17
  go_wp2
  all_goals
    go_ret
    refine ⟨ret_bool ?_, rfl⟩
    unfold tickB
    rw [Bool.eq_iff_iff]
    simp only [decide_eq_true_eq, Bool.false_eq_true]
    first | omega | (constructor <;> intro h <;> first | omega | exact h.elim)

def goodE (c : Cf) (on : Bool) (a lo hi : Int) : Bool := !greatB c.rows && confO c && estO on a lo hi
theorem goodP {c : Cf} {on : Bool} {a lo hi : Int} (h : goodE c on a lo hi = true) : confO c = true ∧ estO on a lo hi = true := by
  unfold goodE at h
  simp only [Bool.and_eq_true] at h
  exact ⟨h.1.2, h.2⟩
theorem estP {a lo hi : Int} (h : estO true a lo hi = true) : 0 ≤ a ∧ a ≤ 2199023255552 ∧ lo ≤ hi ∧ -1125899906842624 ≤ lo ∧ hi ≤ 1125899906842624 := by
  unfold estO at h
  simpa using h

set_option maxHeartbeats 1000000 in
theorem good_any (v : Value) (c : Cf) (on : Bool) (a lo hi : Int) (w : World) (h : IsConf w v c) :
    Calls Try.prog 15 #[v, .agg #[.bool on, .int .i64 a, .int .i64 lo, .int .i64 hi]] w fun z w' => z = .returned (.bool (goodE c on a lo hi)) ∧ Below w.heap.size w w' := by
  have hc := h
  obtain ⟨s, r, rfl, _⟩ := h
  have HE := Lib.hid (show goodE c on a lo hi = (!greatB c.rows && confO c && estO on a lo hi) from rfl)
  go_enter Try.func15, Try.ntmps15
  go_wp2_with fail
  have hb0 : Below w.heap.size w ((w.alloc (.cells #[.int .i64 c.P, .int .i64 c.H, .int .i64 c.C, .int .i64 c.Mn, .int .i64 c.Mx, .int .i64 c.Rho, .int .i64 c.Bd, .int .i64 c.Win, .int .i64 c.St, s, r] 25)).alloc (.cells #[.bool on, .int .i64 a, .int .i64 lo, .int .i64 hi] 31)) := by go_grown
  have HC0 := Lib.hid (hc.below hb0)
  have HB0 := Lib.hid ((Blk.new w 25 #[.int .i64 c.P, .int .i64 c.H, .int .i64 c.C, .int .i64 c.Mn, .int .i64 c.Mx, .int .i64 c.Rho, .int .i64 c.Bd, .int .i64 c.Win, .int .i64 c.St, s, r] w.heap.size rfl).below ((Below.refl _ (w.alloc (.cells #[.int .i64 c.P, .int .i64 c.H, .int .i64 c.C, .int .i64 c.Mn, .int .i64 c.Mx, .int .i64 c.Rho, .int .i64 c.Bd, .int .i64 c.Win, .int .i64 c.St, s, r] 25))).alloc (Nat.le_refl _) (.cells #[.bool on, .int .i64 a, .int .i64 lo, .int .i64 hi] 31)))
  have HS0 := Lib.hid (Blk.new (w.alloc (.cells #[.int .i64 c.P, .int .i64 c.H, .int .i64 c.C, .int .i64 c.Mn, .int .i64 c.Mx, .int .i64 c.Rho, .int .i64 c.Bd, .int .i64 c.Win, .int .i64 c.St, s, r] 25)) 31 #[.bool on, .int .i64 a, .int .i64 lo, .int .i64 hi] (w.heap.size + 1) (by simp))
  clear hc
  refine (great_any _ c _ HC0.out).mono ?_
  rintro z w1 ⟨rfl, hk1⟩
  have HC1 := Lib.hid (HC0.out.below hk1)
  have HB1 := Lib.hid (HB0.out.below hk1)
  have HS1 := Lib.hid (HS0.out.below hk1)
  have hb1 := hb0.trans (hk1.mono hb0.size)
  clear HC0 hk1 hb0 HB0 HS0
  have hxB := HB1.out.cells
  have hlB := HB1.out.lt
  have hxS := HS1.out.cells
  have hlS := HS1.out.lt
  rcases hgr : greatB c.rows with _ | _
  · go_wp2_with fail
    refine (rright_any _ c _ HC1.out).mono ?_
    rintro z w2 ⟨rfl, hbx⟩
    have HC2 := Lib.hid (HC1.out.below hbx)
    have hb2 := hb1.trans (hbx.mono hb1.size)
    have HB2 := Lib.hid (HB1.out.below hbx)
    have HS2 := Lib.hid (HS1.out.below hbx)
    clear hxB hlB hxS hlS HC1 hb1 hbx HB1 HS1
    have hxB := HB2.out.cells
    have hlB := HB2.out.lt
    have hxS := HS2.out.cells
    have hlS := HS2.out.lt
    rcases hcf : confO c with _ | _
    · go_wp2
      all_goals
        go_ret
        exact ⟨by rw [HE.out, hgr, hcf]; simp, hb2⟩
    go_wp2_with fail
    refine (rrightE_any _ _ _ _ _).mono ?_
    rintro z w3 ⟨rfl, hbx⟩
    have HC3 := Lib.hid (HC2.out.below hbx)
    have hb3 := hb2.trans (hbx.mono hb2.size)
    have HB3 := Lib.hid (HB2.out.below hbx)
    have HS3 := Lib.hid (HS2.out.below hbx)
    clear hxB hlB hxS hlS HC2 hb2 hbx HB2 HS2
    have hxB := HB3.out.cells
    have hlB := HB3.out.lt
    have hxS := HS3.out.cells
    have hlS := HS3.out.lt
    go_wp2
    all_goals
      go_ret
      exact ⟨by rw [HE.out, hgr, hcf]; simp, hb3⟩

  · go_wp2
    all_goals
      go_ret
      exact ⟨by rw [HE.out, hgr]; simp, hb1⟩
end Go.Proofs.Ytffpgocacdnfeaa
