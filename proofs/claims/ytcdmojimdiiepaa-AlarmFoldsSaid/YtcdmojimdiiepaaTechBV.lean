/- Layer 20: contracts of steps. -/
import Derived.Test.YtcdmojimdiiepaaTechV
import Derived.Test.YtcdmojimdiiepaaAlm
namespace Go.Proofs.Ytcdmojimdiiepaa
open Go.ChangeShapes Go.WideShapes Go.ChangeAt Go.RowKit
set_option linter.unusedVariables false
set_option linter.unusedSimpArgs false

theorem deeds_any (w : World) :
    Calls Try.prog 71 #[] w fun e w' => e = .returned (.agg #[.func (.func 87) #[] #[], .func (.func 88) #[] #[], .func (.func 89) #[] #[]]) ∧ Below w.heap.size w w' := by
  go_enter Try.func71, Try.ntmps71
  go_wp2
  go_returns
  exact ⟨by simp, by go_grown⟩

theorem TB.keep {w w' : World} {b B : Nat} {s : Te} (h : TB w b s) (hb : Below B w w') (hl : b < B) : TB w' b s := Blk.keep h hb hl
set_option maxRecDepth 100000 in
set_option maxHeartbeats 2000000 in
theorem tstep_any (k : Int) (s : Te) (sample ack : Bool) (w : World) (h0 : 0 ≤ s.run) (h1 : s.run ≤ 4611686018427387904) :
    Calls Try.prog 47 #[.int .i64 k, .agg #[.int .i64 s.run, .bool s.on, .bool s.now, .bool s.ok], .bool sample, .bool ack] w fun e w' =>
      e = .returned (.agg #[.int .i64 (tstep k s sample ack).run, .bool (tstep k s sample ack).on, .bool (tstep k s sample ack).now, .bool (tstep k s sample ack).ok]) ∧ Below w.heap.size w w' := by
  have HE := Lib.hid (show tstep k s sample ack = clr (akt (lst k s sample) ack) from rfl)
  have i0 : ∀ w, (Instr.index 134 (.agg #[.func (.func 87) #[] #[], .func (.func 88) #[] #[], .func (.func 89) #[] #[]]) (.int .i64 0)).run Try.prog w = .ok (.func (.func 87) #[] #[]) w := fun _ => by kernel_rfl
  have i1 : ∀ w, (Instr.index 134 (.agg #[.func (.func 87) #[] #[], .func (.func 88) #[] #[], .func (.func 89) #[] #[]]) (.int .i64 1)).run Try.prog w = .ok (.func (.func 88) #[] #[]) w := fun _ => by kernel_rfl
  have i2 : ∀ w, (Instr.index 134 (.agg #[.func (.func 87) #[] #[], .func (.func 88) #[] #[], .func (.func 89) #[] #[]]) (.int .i64 2)).run Try.prog w = .ok (.func (.func 89) #[] #[]) w := fun _ => by kernel_rfl
  go_enter Try.func47, Try.ntmps47
  go_wp2_with fail
  have hB := Lib.hid (show TB _ (w.heap.size + 1 + 1) s from Blk.new ((w.alloc (.cells #[.int .i64 s.run, .bool s.on, .bool s.now, .bool s.ok] 80)).alloc (.cells #[.int .i64 0, .bool false, .bool false, .bool false] 80)) _ _ _ (by simp))
  have hR := Lib.hid ((Blk.new (w.alloc (.cells #[.int .i64 s.run, .bool s.on, .bool s.now, .bool s.ok] 80)) 80 #[.int .i64 0, .bool false, .bool false, .bool false] (w.heap.size + 1) (by simp)).al (.cells #[.bool s.on, .bool s.now, .int .i64 s.run, .bool s.ok] 132))
  refine (deeds_any _).mono ?_
  rintro e w1 ⟨rfl, hk⟩
  have hb1 : Below w.heap.size w w1 := (show Below w.heap.size w _ by go_grown).trans (hk.mono (by simp; omega))
  have B1 := Lib.hid (show TB w1 _ s from Blk.below hB.out hk)
  have R1 := Lib.hid (hR.out.below hk)
  clear hk hB hR
  go_wp2_with fail
  refine wp_loop_rounds 4 ?_
  rw [rounds_succ]
  go_wp2_with fail
  refine (listen_any _ k s sample ack _ B1.out h0 h1).mono ?_
  rintro e w2 ⟨rfl, B2', hk⟩
  have hb2 := hb1.trans (hk.mono (by omega))
  have R2 := Lib.hid (R1.out.keep hk (by omega))
  have B2 := Lib.hid B2'
  clear hk B2' R1 hb1 B1
  go_wp2_with fail
  rw [rounds_succ]
  go_wp2_with fail
  refine (acknowledge_any _ k _ sample ack _ B2.out).mono ?_
  rintro e w3 ⟨rfl, B3', hk⟩
  have hb3 := hb2.trans (hk.mono (by omega))
  have R3 := Lib.hid (R2.out.keep hk (by omega))
  have B3 := Lib.hid B3'
  clear hk B3' R2 hb2 B2
  go_wp2_with fail
  rw [rounds_succ]
  go_wp2_with fail
  refine (clear_any _ k _ sample ack _ B3.out).mono ?_
  rintro e w4 ⟨rfl, B4', hk⟩
  have hb4 := hb3.trans (hk.mono (by omega))
  have R4 := Lib.hid (R3.out.keep hk (by omega))
  have B4 := Lib.hid B4'
  clear hk B4' R3 hb3 B3
  go_wp2_with fail
  rw [← HE.out] at B4
  have cb := B4.out.cells
  have cr := R4.out.cells
  have fr := R4.out.froz
  have lr := R4.out.lt
  rw [rounds_succ]
  clear i0 i1 i2
  go_wp2_with fail
  refine bodyPost_ret (v := .agg #[.int .i64 (tstep k s sample ack).run, .bool (tstep k s sample ack).on, .bool (tstep k s sample ack).now, .bool (tstep k s sample ack).ok]) (by simp [results, Try.results47, go_sem, cr]) rfl ⟨rfl, ?_⟩
  clear cb cr fr
  go_grown

def rightT (k : Int) (s : Te) : Bool := decide (0 ≤ s.run) && decide (s.run ≤ k) && (s.now == decide (s.run = k)) && (s.on || !s.now) && (!s.ok || s.on && s.now)

end Go.Proofs.Ytcdmojimdiiepaa
