/- Layer 19: contracts of steps. -/
import Derived.Test.YtcdmojimdiiepaaPhysV
import Derived.Test.YtcdmojimdiiepaaMemB
namespace Go.Proofs.Ytcdmojimdiiepaa
open Go.ChangeShapes Go.WideShapes Go.ChangeAt Go.RowKit
set_option linter.unusedVariables false
set_option linter.unusedSimpArgs false

/-- A stage, in a world: what it tells, and where its closure's two things lie. -/
def Stage (base : Nat) (w : World) (v : Value) (sl : Value) (h : Int) (la : Bool) (s : Ph) : Prop :=
  ∃ b1 b2 : Nat, base ≤ b1 ∧ base ≤ b2 ∧ v = .agg #[.int .i64 s.run, .bool s.on, .bool s.now, .func (.func 68) #[] #[.pointer (some ⟨b1, 0, none⟩), .pointer (some ⟨b2, 0, none⟩)]] ∧
    Blk w b1 50 #[sl, .int .i64 h, .bool la] ∧ Blk w b2 71 #[.int .i64 s.run, .bool s.on, .bool s.now]
theorem Stage.below {base : Nat} {w w' : World} {v sl : Value} {h : Int} {la : Bool} {s : Ph} (hs : Stage base w v sl h la s) (hb : Below w.heap.size w w') : Stage base w' v sl h la s := by
  obtain ⟨b1, b2, e1, e2, e, h1, h2⟩ := hs
  exact ⟨b1, b2, e1, e2, e, h1.below hb, h2.below hb⟩

set_option maxHeartbeats 1000000 in
theorem next_any (sl : Value) (h : Int) (la : Bool) (s : Ph) (t : Int) (ack : Bool) (b1 b2 : Nat) (w : World) (h0 : 0 ≤ s.run) (h1 : s.run ≤ 4611686018427387904)
    (hb1 : Blk w b1 50 #[sl, .int .i64 h, .bool la]) (hb2 : Blk w b2 71 #[.int .i64 s.run, .bool s.on, .bool s.now]) :
    Calls Try.prog 68 #[.int .i64 t, .bool ack, .pointer (some ⟨b1, 0, none⟩), .pointer (some ⟨b2, 0, none⟩)] w fun e w' =>
      ∃ v, e = .returned v ∧ Stage w.heap.size w' v sl h la (pstep h la s t ack) ∧ Below w.heap.size w w' := by
  have l1 := hb1.lt
  have l2 := hb2.lt
  have c1 := hb1.cells
  have c2 := hb2.cells
  clear hb1 hb2
  have k0 := Lib.hid (c1 0)
  have k1 := Lib.hid (c1 1)
  have k2 := Lib.hid (c1 2)
  have k3 := Lib.hid (c2 0)
  have k4 := Lib.hid (c2 1)
  have k5 := Lib.hid (c2 2)
  have HP := Lib.hid (show pstep h la s t ack = akd (hrd h la s t) ack from rfl)
  go_enter Try.func68, Try.ntmps68
  go_wp2_with fail
  go_region_held3 (fun w' => w'.cell? ⟨b1, 0, none⟩ = some sl ∧ w'.cell? ⟨b1, 1, none⟩ = some (.int .i64 h) ∧ w'.cell? ⟨b1, 2, none⟩ = some (.bool la) ∧
      w'.cell? ⟨b2, 0, none⟩ = some (.int .i64 s.run) ∧ w'.cell? ⟨b2, 1, none⟩ = some (.bool s.on) ∧ w'.cell? ⟨b2, 2, none⟩ = some (.bool s.now)) (exact ⟨cellB k0.out (by go_grown) l1, cellB k1.out (by go_grown) l1, cellB k2.out (by go_grown) l1, cellB k3.out (by go_grown) l2, cellB k4.out (by go_grown) l2, cellB k5.out (by go_grown) l2⟩)
    (first | (go_at_call 70; refine (heard_any _ _ _ _ _ _ h0 h1).mono ?_; rintro e w1 ⟨rfl, rfl⟩) | (go_at_call 69; refine (ack_any _ _ _).mono ?_; rintro e w1 ⟨rfl, rfl⟩) | (go_at_call 46; refine (at_any _ _ _ _ _ _ _).mono ?_; rintro e w1 ⟨rfl, rfl⟩))

  go_wp2
  go_returns
  refine ⟨_, rfl, ⟨w.heap.size + 1 + 1 + 1 + 1 + 1 + 1, w.heap.size + 1 + 1 + 1 + 1 + 1 + 1 + 1, by omega, by omega, by rw [HP.out], ?_, ?_⟩, by go_grown⟩
  · exact ((Blk.new _ _ _ _ (by simp)).al _).al _
  · rw [HP.out]; exact (Blk.new _ _ _ _ (by simp)).al _

theorem fld1 (w : World) (r : Int) (o n : Bool) (f : Fn) (a b : Array Value) : (Instr.field 100 (.agg #[.int .i64 r, .bool o, .bool n, .func f a b]) 1).run Try.prog w = .ok (.func f a b) w := by kernel_rfl
theorem fld0 (w : World) (r : Int) (o n : Bool) (f : Fn) (a b : Array Value) : (Instr.field 100 (.agg #[.int .i64 r, .bool o, .bool n, .func f a b]) 0).run Try.prog w = .ok (.agg #[.int .i64 r, .bool o, .bool n]) w := by kernel_rfl

set_option maxHeartbeats 1000000 in
theorem step_any (sl : Value) (h : Int) (la : Bool) (s : Ph) (t : Int) (ack : Bool) (w : World) (h0 : 0 ≤ s.run) (h1 : s.run ≤ 4611686018427387904) :
    Calls Try.prog 131 #[.agg #[sl, .int .i64 h, .bool la], .agg #[.int .i64 s.run, .bool s.on, .bool s.now], .int .i64 t, .bool ack] w fun e w' =>
      e = .returned (.agg #[.int .i64 (pstep h la s t ack).run, .bool (pstep h la s t ack).on, .bool (pstep h la s t ack).now]) ∧ Below w.heap.size w w' := by
  have f1 := fld1
  have f0 := fld0
  go_enter Try.func131, Try.ntmps131
  go_wp2_with fail
  refine (at_any _ _ _ _ _ _ _).mono ?_
  rintro e w1 ⟨rfl, rfl⟩
  go_wp2_with fail
  have HR := Lib.hid ((((Blk.new ((w.alloc (.cells #[sl, .int .i64 h, .bool la] 50)).alloc (.cells #[.int .i64 s.run, .bool s.on, .bool s.now] 71)) 71 #[.int .i64 0, .bool false, .bool false] (w.heap.size + 1 + 1) (by simp)).al (.cells #[sl, .int .i64 h, .bool la] 50)).al (.cells #[.int .i64 s.run, .bool s.on, .bool s.now] 71)).al (.cells #[.int .i64 s.run, .bool s.on, .bool s.now, .func (.func 68) #[] #[.pointer (some ⟨w.heap.size + 1 + 1 + 1, 0, none⟩), .pointer (some ⟨w.heap.size + 1 + 1 + 1 + 1, 0, none⟩)]] 100))
  refine (next_any sl h la s t ack _ _ _ h0 h1 ?_ ?_).mono ?_
  · exact ((Blk.new _ _ _ _ (by simp)).al _).al _
  · exact (Blk.new _ _ _ _ (by simp)).al _
  rintro e w1 ⟨v, rfl, ⟨b1, b2, _, _, rfl, q1, q2⟩, hb⟩
  have HS := Lib.hid (HR.out.below hb)
  have hb1 : Below w.heap.size w w1 := (show Below w.heap.size w _ by go_grown).trans (hb.mono (by simp; omega))
  clear hb q1 q2 HR f1
  have hx := HS.out.cells
  have hf := HS.out.froz
  have hz := hb1.size
  generalize hn : w.heap.size + 1 + 1 = n at *
  have HN := Lib.hid hn
  clear hn
  go_wp2
  refine bodyPost_ret (v := .agg #[.int .i64 (pstep h la s t ack).run, .bool (pstep h la s t ack).on, .bool (pstep h la s t ack).now]) (by simp [results, Try.results131, go_sem, hx]) rfl ⟨rfl, ?_⟩
  have := HN.out
  clear hx hf
  go_grown
end Go.Proofs.Ytcdmojimdiiepaa
