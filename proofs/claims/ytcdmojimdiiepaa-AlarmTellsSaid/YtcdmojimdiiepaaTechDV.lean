/- Layer 20: the document steps. -/
import Derived.Test.YtcdmojimdiiepaaTechCV
namespace Go.Proofs.Ytcdmojimdiiepaa
open Go.ChangeShapes Go.WideShapes Go.ChangeAt Go.RowKit
set_option linter.unusedVariables false
set_option linter.unusedSimpArgs false


set_option maxHeartbeats 4000000 in
theorem rtstep_any (k : Int) (s : Te) (sample ack : Bool) (w : World) (h0 : 0 ≤ s.run) (h1 : s.run ≤ 4611686018427387904) :
    Calls Try.prog 43 #[.int .i64 k, .agg #[.int .i64 s.run, .bool s.on, .bool s.now, .bool s.ok], .bool sample, .bool ack] w fun e w' =>
      e = .returned (.agg #[.int .i64 (tstep k s sample ack).run, .bool (tstep k s sample ack).on, .bool (tstep k s sample ack).now, .bool (tstep k s sample ack).ok]) ∧ Below w.heap.size w w' := by
  obtain ⟨r, o, n, q⟩ := s
  simp only at h0 h1
  have HP := Lib.hid (show tstep k ⟨r, o, n, q⟩ sample ack = clr (akt (lst k ⟨r, o, n, q⟩ sample) ack) from rfl)
  rw [HP.out]
  clear HP
  cases sample
  · by_cases hr : r + 1 < k
    · have E : lst k ⟨r, o, n, q⟩ false = ⟨r + 1, o, n, q⟩ := by simp [lst, hr]
      rw [E]
      clear E
      have g : (r + 1 == k) = false := by simp; omega
      cases o <;> cases n <;> cases q <;> cases ack
      all_goals
        go_enter Try.func43, Try.ntmps43
        go_wp2
        go_returns
        exact ⟨by simp [clr, akt], by go_grown⟩
    · have E : lst k ⟨r, o, n, q⟩ false = ⟨k, true, true, q && n⟩ := by simp [lst, hr]
      rw [E]
      clear E
      by_cases hk : k = r + 1
      · subst hk
        clear hr
        cases o <;> cases n <;> cases q <;> cases ack
        all_goals
          go_enter Try.func43, Try.ntmps43
          go_wp2
          go_returns
          exact ⟨by simp [clr, akt], by go_grown⟩
      · have hk2 : k < r + 1 := by omega
        clear hk hr
        cases o <;> cases n <;> cases q <;> cases ack
        all_goals
          go_enter Try.func43, Try.ntmps43
          go_wp2
          go_returns
          exact ⟨by simp [clr, akt], by go_grown⟩
  · have E : lst k ⟨r, o, n, q⟩ true = ⟨0, o, false, q⟩ := by simp [lst]
    rw [E]
    clear E
    cases o <;> cases n <;> cases q <;> cases ack
    all_goals
      go_enter Try.func43, Try.ntmps43
      go_wp2
      go_returns
      exact ⟨by simp [clr, akt], by go_grown⟩
end Go.Proofs.Ytcdmojimdiiepaa
