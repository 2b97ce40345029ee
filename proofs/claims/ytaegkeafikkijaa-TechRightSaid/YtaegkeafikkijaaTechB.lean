/- Layer 20: contracts of steps. -/
import Derived.Test.YtaegkeafikkijaaTech
import Derived.Test.YtaegkeafikkijaaAlm
namespace Go.Proofs.Ytaegkeafikkijaa
open Go.ChangeShapes Go.WideShapes Go.ChangeAt Go.RowKit
set_option linter.unusedVariables false
set_option linter.unusedSimpArgs false

theorem deeds_any (w : World) :
    Calls Try.prog 18 #[] w fun e w' => e = .returned (.agg #[.func (.func 19) #[] #[], .func (.func 20) #[] #[], .func (.func 21) #[] #[]]) ∧ Below w.heap.size w w' := by
  go_enter Try.func18, Try.ntmps18
  go_wp2
  go_returns
  exact ⟨by simp, by go_grown⟩

theorem TB.keep {w w' : World} {b B : Nat} {s : Te} (h : TB w b s) (hb : Below B w w') (hl : b < B) : TB w' b s := Blk.keep h hb hl
set_option maxRecDepth 100000 in
set_option maxHeartbeats 2000000 in
theorem tstep_any (k : Int) (s : Te) (sample ack : Bool) (w : World) (h0 : 0 ≤ s.run) (h1 : s.run ≤ 4611686018427387904) :
    Calls Try.prog 13 #[.int .i64 k, .agg #[.int .i64 s.run, .bool s.on, .bool s.now, .bool s.ok], .bool sample, .bool ack] w fun e w' =>
      e = .returned (.agg #[.int .i64 (tstep k s sample ack).run, .bool (tstep k s sample ack).on, .bool (tstep k s sample ack).now, .bool (tstep k s sample ack).ok]) ∧ Below w.heap.size w w' := by
  have HE := Lib.hid (show tstep k s sample ack = clr (akt (lst k s sample) ack) from rfl)
  have i0 : ∀ w, (Instr.index 40 (.agg #[.func (.func 19) #[] #[], .func (.func 20) #[] #[], .func (.func 21) #[] #[]]) (.int .i64 0)).run Try.prog w = .ok (.func (.func 19) #[] #[]) w := fun _ => by kernel_rfl
  have i1 : ∀ w, (Instr.index 40 (.agg #[.func (.func 19) #[] #[], .func (.func 20) #[] #[], .func (.func 21) #[] #[]]) (.int .i64 1)).run Try.prog w = .ok (.func (.func 20) #[] #[]) w := fun _ => by kernel_rfl
  have i2 : ∀ w, (Instr.index 40 (.agg #[.func (.func 19) #[] #[], .func (.func 20) #[] #[], .func (.func 21) #[] #[]]) (.int .i64 2)).run Try.prog w = .ok (.func (.func 21) #[] #[]) w := fun _ => by kernel_rfl
  go_enter Try.func13, Try.ntmps13
  go_wp2_with fail
  have hB := Lib.hid (show TB _ (w.heap.size + 1 + 1) s from Blk.new ((w.alloc (.cells #[.int .i64 s.run, .bool s.on, .bool s.now, .bool s.ok] 23)).alloc (.cells #[.int .i64 0, .bool false, .bool false, .bool false] 23)) _ _ _ (by simp))
  have hR := Lib.hid ((Blk.new (w.alloc (.cells #[.int .i64 s.run, .bool s.on, .bool s.now, .bool s.ok] 23)) 23 #[.int .i64 0, .bool false, .bool false, .bool false] (w.heap.size + 1) (by simp)).al (.cells #[.bool s.on, .bool s.now, .int .i64 s.run, .bool s.ok] 38))
  refine (deeds_any _).mono ?_
  rintro e w1 ⟨rfl, hk⟩
  have hb1 : Below w.heap.size w w1 := (show Below w.heap.size w _ by go_grown).trans (hk.mono (by simp; omega))
  have B1 := Lib.hid (show TB w1 _ s from Blk.below hB.out hk)
  have R1 := Lib.hid (hR.out.below hk)
  clear hk hB hR
  go_wp2_with fail
  refine wp_loop_rounds 4 ?_
  rw [rounds_succ]
  go_wp2_with fail
  refine (listen_any _ k s sample ack _ B1.out h0 h1).mono ?_
  rintro e w2 ⟨rfl, B2', hk⟩
  have hb2 := hb1.trans (hk.mono (by omega))
  have R2 := Lib.hid (R1.out.keep hk (by omega))
  have B2 := Lib.hid B2'
  clear hk B2' R1 hb1 B1
  go_wp2_with fail
  rw [rounds_succ]
  go_wp2_with fail
  refine (acknowledge_any _ k _ sample ack _ B2.out).mono ?_
  rintro e w3 ⟨rfl, B3', hk⟩
  have hb3 := hb2.trans (hk.mono (by omega))
  have R3 := Lib.hid (R2.out.keep hk (by omega))
  have B3 := Lib.hid B3'
  clear hk B3' R2 hb2 B2
  go_wp2_with fail
  rw [rounds_succ]
  go_wp2_with fail
  refine (clear_any _ k _ sample ack _ B3.out).mono ?_
  rintro e w4 ⟨rfl, B4', hk⟩
  have hb4 := hb3.trans (hk.mono (by omega))
  have R4 := Lib.hid (R3.out.keep hk (by omega))
  have B4 := Lib.hid B4'
  clear hk B4' R3 hb3 B3
  go_wp2_with fail
  rw [← HE.out] at B4
  have cb := B4.out.cells
  have cr := R4.out.cells
  have fr := R4.out.froz
  have lr := R4.out.lt
  rw [rounds_succ]
  clear i0 i1 i2
  go_wp2_with fail
  refine bodyPost_ret (v := .agg #[.int .i64 (tstep k s sample ack).run, .bool (tstep k s sample ack).on, .bool (tstep k s sample ack).now, .bool (tstep k s sample ack).ok]) (by simp [results, Try.results13, go_sem, cr]) rfl ⟨rfl, ?_⟩
  clear cb cr fr
  go_grown

def rightT (k : Int) (s : Te) : Bool := decide (0 ≤ s.run) && decide (s.run ≤ k) && (s.now == decide (s.run = k)) && (s.on || !s.now) && (!s.ok || s.on && s.now)

set_option maxHeartbeats 1000000 in
theorem tright_any (k : Int) (s : Te) (w : World) :
    Calls Try.prog 11 #[.int .i64 k, .agg #[.int .i64 s.run, .bool s.on, .bool s.now, .bool s.ok]] w fun e w' =>
      e = .returned (.bool (rightT k s)) ∧ Below w.heap.size w w' := by
  obtain ⟨r, o, n, q⟩ := s
  unfold rightT
  simp only
  by_cases h0 : r < 0
  · go_enter Try.func11, Try.ntmps11
    go_wp2
    go_ret
    exact ⟨ret_bool (by simp; omega), by go_grown⟩
  by_cases h1 : k < r
  · go_enter Try.func11, Try.ntmps11
    go_wp2
    go_ret
    exact ⟨ret_bool (by simp; omega), by go_grown⟩
  have a1 : decide (0 ≤ r) = true := by simp; omega
  have a2 : decide (r ≤ k) = true := by simp; omega
  rw [a1, a2]
  clear a1 a2
  by_cases h2 : r = k
  · subst h2
    cases n <;> cases o <;> cases q
    all_goals
      go_enter Try.func11, Try.ntmps11
      go_wp2
      go_ret
      exact ⟨ret_bool (by simp), by go_grown⟩
  · have g : (r == k) = false := by simp [h2]
    have g2 : decide (r = k) = false := by simp [h2]
    rw [g2]
    clear h2 g2
    cases n <;> cases o <;> cases q
    all_goals
      go_enter Try.func11, Try.ntmps11
      go_wp2
      go_ret
      exact ⟨ret_bool (by simp), by go_grown⟩

set_option maxHeartbeats 1000000 in
theorem rtright_any (k : Int) (s : Te) (w : World) :
    Calls Try.prog 12 #[.int .i64 k, .agg #[.int .i64 s.run, .bool s.on, .bool s.now, .bool s.ok]] w fun e w' =>
      e = .returned (.bool (rightT k s)) ∧ Below w.heap.size w w' := by
  obtain ⟨r, o, n, q⟩ := s
  unfold rightT
  simp only
  by_cases h0 : r < 0
  · go_enter Try.func12, Try.ntmps12
    go_wp2
    go_ret
    exact ⟨ret_bool (by simp; omega), by go_grown⟩
  by_cases h1 : k < r
  · go_enter Try.func12, Try.ntmps12
    go_wp2
    go_ret
    exact ⟨ret_bool (by simp; omega), by go_grown⟩
  have a1 : decide (0 ≤ r) = true := by simp; omega
  have a2 : decide (r ≤ k) = true := by simp; omega
  rw [a1, a2]
  clear a1 a2
  by_cases h2 : r = k
  · subst h2
    cases n <;> cases o <;> cases q
    all_goals
      go_enter Try.func12, Try.ntmps12
      go_wp2
      go_ret
      exact ⟨ret_bool (by simp), by go_grown⟩
  · have g : (r == k) = false := by simp [h2]
    have g2 : decide (r = k) = false := by simp [h2]
    rw [g2]
    clear h2 g2
    cases n <;> cases o <;> cases q
    all_goals
      go_enter Try.func12, Try.ntmps12
      go_wp2
      go_ret
      exact ⟨ret_bool (by simp), by go_grown⟩

theorem limit_any (n : Int) (w : World) (h0 : 0 ≤ n) (h1 : n ≤ 255) :
    Calls Try.prog 10 #[.int .u8 n] w fun e w' => e = .returned (.int .i64 (n % 6 + 1)) ∧ Below w.heap.size w w' := by
  go_enter Try.func10, Try.ntmps10
  go_wp2
  go_ret
  exact ⟨by simp, by go_grown⟩
end Go.Proofs.Ytaegkeafikkijaa
