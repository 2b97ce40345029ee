/- Layer 20: contracts of a channel's alarm. -/
import Derived.Test.YtcdmojimdiiepaaMemC
import Derived.Deep.QuietTactic
import Derived.BigQuiet
import Derived.StillTailTactics
import Derived.RegionTactic
import Derived.BigRegion
import Derived.Laws.EntriesVeiled
namespace Go.Proofs.Ytcdmojimdiiepaa
open Go.ChangeShapes Go.WideShapes Go.ChangeAt Go.RowKit
set_option linter.unusedVariables false
set_option linter.unusedSimpArgs false

structure Te where
  run : Int
  on : Bool
  now : Bool
  ok : Bool
def lst (k : Int) (s : Te) (sample : Bool) : Te :=
  if sample = true then ⟨0, s.on, false, s.ok⟩ else if s.run + 1 < k then ⟨s.run + 1, s.on, s.now, s.ok⟩ else ⟨k, true, true, s.ok && s.now⟩
def akt (s : Te) (ack : Bool) : Te := ⟨s.run, s.on, s.now, s.ok || (ack && s.on)⟩
def clr (s : Te) : Te := if s.on = true ∧ s.ok = true ∧ s.now = false then ⟨s.run, false, s.now, false⟩ else s
def tstep (k : Int) (s : Te) (sample ack : Bool) : Te := clr (akt (lst k s sample) ack)

/-- the state's block -/
def TB (w : World) (b : Nat) (s : Te) : Prop := Blk w b 132 #[.bool s.on, .bool s.now, .int .i64 s.run, .bool s.ok]

set_option maxHeartbeats 1000000 in
theorem listen_any (b : Nat) (k : Int) (s : Te) (sample ack : Bool) (w : World) (hb : TB w b s) (h0 : 0 ≤ s.run) (h1 : s.run ≤ 4611686018427387904) :
    Calls Try.prog 87 #[.pointer (some ⟨b, 0, none⟩), .agg #[.int .i64 k, .bool sample, .bool ack]] w fun e w' => e = .returned (.tuple #[]) ∧ TB w' b (lst k s sample) ∧ Below b w w' := by
  obtain ⟨r, o, n, q⟩ := s
  simp only at h0 h1
  have hl := hb.lt
  have hc := hb.cells
  have hf := hb.froz
  have HB := Lib.hid hb
  clear hb
  cases sample
  · by_cases hr : r + 1 < k
    · have E := Lib.hid (show lst k ⟨r, o, n, q⟩ false = ⟨r + 1, o, n, q⟩ by simp [lst, hr])
      go_enter Try.func87, Try.ntmps87
      go_wp2_with fail
      go_region
      go_wp2_with fail
      go_region
      go_wp2
      go_returns
      refine ⟨by simp, ?_, ?_⟩
      · rw [E.out]; exact ((HB.out.set 2 _).al _).drw
      · clear hc hf; go_grown
    · have E := Lib.hid (show lst k ⟨r, o, n, q⟩ false = ⟨k, true, true, q && n⟩ by simp [lst, hr])
      by_cases hk : k = r + 1
      · subst hk
        clear hr
        cases q <;> cases n
        all_goals
          go_enter Try.func87, Try.ntmps87
          go_wp2_with fail
          go_region
          go_wp2_with fail
          go_region
          go_wp2
          go_returns
          refine ⟨by simp, ?_, ?_⟩
          · rw [E.out]
            exact (((((HB.out.set 2 _).set 3 _).set 0 _).set 1 _).al _).drw
          · clear hc hf; go_grown
      · have hk2 : k < r + 1 := by omega
        clear hk hr
        cases q <;> cases n
        all_goals
          go_enter Try.func87, Try.ntmps87
          go_wp2_with fail
          go_region
          go_wp2_with fail
          go_region
          go_wp2
          go_returns
          refine ⟨by simp, ?_, ?_⟩
          · rw [E.out]
            exact (((((HB.out.set 2 _).set 3 _).set 0 _).set 1 _).al _).drw
          · clear hc hf; go_grown
  · have E := Lib.hid (show lst k ⟨r, o, n, q⟩ true = ⟨0, o, false, q⟩ by simp [lst])
    go_enter Try.func87, Try.ntmps87
    go_wp2_with fail
    go_returns
    refine ⟨by simp, ?_, ?_⟩
    · rw [E.out]; exact ((HB.out.set 2 _).set 1 _).al _
    · clear hc hf; go_grown

set_option maxHeartbeats 1000000 in
theorem acknowledge_any (b : Nat) (k : Int) (s : Te) (sample ack : Bool) (w : World) (hb : TB w b s) :
    Calls Try.prog 88 #[.pointer (some ⟨b, 0, none⟩), .agg #[.int .i64 k, .bool sample, .bool ack]] w fun e w' => e = .returned (.tuple #[]) ∧ TB w' b (akt s ack) ∧ Below b w w' := by
  obtain ⟨r, o, n, q⟩ := s
  have hl := hb.lt
  have hc := hb.cells
  have hf := hb.froz
  have HB := Lib.hid hb
  clear hb
  cases q <;> cases ack <;> cases o
  all_goals
    go_enter Try.func88, Try.ntmps88
    go_wp2_with fail
    go_returns
    refine ⟨by simp, ?_, ?_⟩
    · exact (HB.out.set 3 _).al _
    · clear hc hf; go_grown

set_option maxHeartbeats 1000000 in
theorem clear_any (b : Nat) (k : Int) (s : Te) (sample ack : Bool) (w : World) (hb : TB w b s) :
    Calls Try.prog 89 #[.pointer (some ⟨b, 0, none⟩), .agg #[.int .i64 k, .bool sample, .bool ack]] w fun e w' => e = .returned (.tuple #[]) ∧ TB w' b (clr s) ∧ Below b w w' := by
  obtain ⟨r, o, n, q⟩ := s
  have hl := hb.lt
  have hc := hb.cells
  have hf := hb.froz
  have HB := Lib.hid hb
  clear hb
  cases q <;> cases n <;> cases o
  all_goals
    go_enter Try.func89, Try.ntmps89
    go_wp2_with fail
    go_returns
    refine ⟨by simp, ?_, ?_⟩
    · first | exact HB.out.al _ | exact ((HB.out.set 0 _).set 3 _).al _
    · clear hc hf; go_grown
end Go.Proofs.Ytcdmojimdiiepaa
