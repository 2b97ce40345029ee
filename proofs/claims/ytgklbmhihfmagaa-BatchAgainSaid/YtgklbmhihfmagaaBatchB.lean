/- Layer 14: tracks: what a packet is to one. -/
import Derived.Test.YtgklbmhihfmagaaBatchA
import Derived.Test.YtgklbmhihfmagaaReg
import Derived.Handy
import Derived.Deep.QuietTactic
import Derived.BigQuiet
namespace Go.Proofs.Ytgklbmhihfmagaa
open Go.ChangeShapes Go.WideShapes Go.ChangeAt Go.RowKit Go.Deep
set_option linter.unusedVariables false
set_option linter.unusedSimpArgs false

/-- a track that may be -/
def TkOk (t : Tk) : Prop := (0 ≤ t.boot ∧ t.boot ≤ 255) ∧ (t.on = true → 0 ≤ t.top ∧ t.top ≤ 576460752303423488)
theorem tkok_none : TkOk Tk.none := ⟨by decide, by decide⟩
set_option maxHeartbeats 1000000 in
theorem goes_any (b s : Int) (w : World) (h : 0 ≤ b ∧ b ≤ 576460752303423488) :
    Calls Try.prog 43 #[.agg #[.int .i64 b, .int .i64 s]] w fun e w' => e = .returned (.int .i64 (if nearO b s = true then near b s else -1)) ∧ Below w.heap.size w w' := by
  have hn : nearN b s = if nearO b s = true then near b s else 0 := rfl
  have HN := Lib.hid hn
  clear hn
  rcases ho : nearO b s with _ | _
  · have HO := Lib.hid ho
    clear ho
    go_enter Try.func43, Try.ntmps43
    go_wp2_with (go_at_call 63; refine (unwrap_any b s _ h.1 (by omega)).mono ?_; rw [HO.out]; rintro e w' ⟨rfl, rfl⟩)
    go_ret
    exact ⟨by simp [HO.out], by go_grown⟩
  · have HO := Lib.hid ho
    clear ho
    rw [HO.out, if_pos rfl] at HN
    go_enter Try.func43, Try.ntmps43
    go_wp2_with (go_at_call 63; refine (unwrap_any b s _ h.1 (by omega)).mono ?_; rw [HO.out, HN.out]; rintro e w' ⟨rfl, rfl⟩)
    go_ret
    exact ⟨by simp [HO.out], by go_grown⟩
set_option maxHeartbeats 1000000 in
theorem begins_any (s x : Int) (w : World) :
    Calls Try.prog 44 #[.agg #[.int .i64 s, .int .i64 x]] w fun e w' => e = .returned (.int .i64 s) ∧ Below w.heap.size w w' := by
  go_enter Try.func44, Try.ntmps44
  go_wp2
  go_ret
  exact ⟨by simp, by go_grown⟩
set_option maxHeartbeats 1000000 in
theorem strays_any (s : Int) (w : World) :
    Calls Try.prog 94 #[.agg #[.int .i64 s]] w fun e w' => e = .returned (.int .i64 s) ∧ Below w.heap.size w w' := by
  go_enter Try.func94, Try.ntmps94
  go_wp2
  go_ret
  exact ⟨by simp, by go_grown⟩
def kinV (t : Tk) (boot seq : Int) : Value :=
  if t.on = false then .iface 84 (.agg #[.int .i64 seq, .int .i64 1])
  else if boot = t.boot then .iface 81 (.agg #[.int .i64 t.top, .int .i64 seq])
  else if boot = (t.boot + 1) % 256 then .iface 84 (.agg #[.int .i64 seq, .int .i64 4])
  else .iface 106 (.agg #[.int .i64 seq])
set_option maxHeartbeats 2000000 in
theorem kinOf_any (x : TV) (boot seq : Int) (w : World) (h : TkOk x.t) :
    Calls Try.prog 42 #[x.agg, .int .i64 boot, .int .i64 seq] w fun e w' => e = .returned (kinV x.t boot seq) ∧ Below w.heap.size w w' := by
  obtain ⟨⟨on, tb, top, sm⟩, A, c⟩ := x
  obtain ⟨⟨h1, h2⟩, _⟩ := h
  dsimp only at h1 h2
  unfold TV.agg TV.vs kinV
  dsimp only
  have hw : IntKind.i64.wrap (tb + 1) = tb + 1 := IntWalk.i64_in _ (by omega)
  have hm : (tb + 1).tmod 256 = (tb + 1) % 256 := Int.tmod_eq_emod_of_nonneg (by omega)
  cases on with
  | false =>
    go_enter Try.func42, Try.ntmps42
    go_wp2
    go_ret
    exact ⟨by simp, by go_grown⟩
  | true =>
    by_cases e1 : boot = tb
    · subst e1
      go_enter Try.func42, Try.ntmps42
      go_wp2
      go_ret
      exact ⟨by simp, by go_grown⟩
    · have g1 : (boot == tb) = false := by simpa using e1
      by_cases e2 : boot = (tb + 1) % 256
      · have g2 : (boot == (tb + 1) % 256) = true := by simpa using e2
        have E1 := Lib.hid e1
        have E2 := Lib.hid e2
        clear e1 e2
        go_enter Try.func42, Try.ntmps42
        go_wp2
        go_ret
        exact ⟨by simp [E1.out, E2.out], by go_grown⟩
      · have g2 : (boot == (tb + 1) % 256) = false := by simpa using e2
        have E1 := Lib.hid e1
        have E2 := Lib.hid e2
        clear e1 e2
        go_enter Try.func42, Try.ntmps42
        go_wp2
        go_ret
        exact ⟨by simp [E1.out, E2.out], by go_grown⟩
def kinN (t : Tk) (boot : Int) : Int := kinO t boot
theorem ta1 (a b : Value) (w : World) : (Instr.typeAssert (.iface 84 (.agg #[a, b])) 78 81 true).run Try.prog w = .ok (.tuple #[.agg #[.int .i64 0, .int .i64 0], .bool false]) w := by kernel_rfl
theorem ta2 (a b : Value) (w : World) : (Instr.typeAssert (.iface 84 (.agg #[a, b])) 78 84 true).run Try.prog w = .ok (.tuple #[.agg #[a, b], .bool true]) w := by kernel_rfl
theorem ta3 (a b : Value) (w : World) : (Instr.typeAssert (.iface 81 (.agg #[a, b])) 78 81 true).run Try.prog w = .ok (.tuple #[.agg #[a, b], .bool true]) w := by kernel_rfl
theorem ta4 (a : Value) (w : World) : (Instr.typeAssert (.iface 106 (.agg #[a])) 78 81 true).run Try.prog w = .ok (.tuple #[.agg #[.int .i64 0, .int .i64 0], .bool false]) w := by kernel_rfl
theorem ta5 (a : Value) (w : World) : (Instr.typeAssert (.iface 106 (.agg #[a])) 78 84 true).run Try.prog w = .ok (.tuple #[.agg #[.int .i64 0, .int .i64 0], .bool false]) w := by kernel_rfl
set_option maxRecDepth 100000 in
set_option maxHeartbeats 4000000 in
theorem index_any (x : TV) (boot seq : Int) (w : World) (h : TkOk x.t) :
    Calls Try.prog 33 #[x.agg, .int .i64 boot, .int .i64 seq] w fun e w' => e = .returned (.tuple #[.int .i64 (kinO x.t boot), .int .i64 (numO x.t boot seq)]) ∧ Below w.heap.size w w' := by
  have hk := fun W => kinOf_any x boot seq W h
  obtain ⟨⟨on, tb, top, sm⟩, A, c⟩ := x
  obtain ⟨⟨h1, h2⟩, h3⟩ := h
  dsimp only at h1 h2 h3
  unfold TV.agg TV.vs at *
  dsimp only at hk ⊢
  have H3 := Lib.hid h3
  clear h3
  cases on with
  | false =>
    have e1 : kinV ⟨false, tb, top, sm⟩ boot seq = .iface 84 (.agg #[.int .i64 seq, .int .i64 1]) := by rfl
    have e2 : kinO ⟨false, tb, top, sm⟩ boot = 1 := by rfl
    have e3 : numO ⟨false, tb, top, sm⟩ boot seq = seq := by rfl
    rw [e1] at hk
    rw [e2, e3]
    have HK := Lib.hid hk
    clear hk e1 e2 e3
    have q1 := ta1
    have q2 := ta2
    have q3 := ta3
    have q4 := ta4
    have q5 := ta5
    go_enter Try.func33, Try.ntmps33
    go_wp2_with fail
    refine calls_world (fun W => Below w.heap.size w W) (by go_grown) fun W1 hb1 => ?_
    have HB1 := Lib.hid hb1
    clear hb1
    refine (HK.out W1).mono ?_
    rintro e W2 ⟨rfl, hk⟩
    have HB2 := Lib.hid (Btrans HB1.out hk)
    clear HB1 hk
    go_wp2_with fail
    refine calls_world (fun W => Below w.heap.size w W) (Btrans HB2.out (by go_grown)) fun W3 hb3 => ?_
    have HB3 := Lib.hid hb3
    clear hb3
    refine (begins_any _ _ _).mono ?_
    rintro e W4 ⟨rfl, hk⟩
    have HB4 := Lib.hid (Btrans HB3.out hk)
    clear HB3 hk HB2
    go_wp2
    go_ret2
    exact ⟨by simp, HB4.out⟩
  | true =>
    have H4 := Lib.hid (H3.out rfl)
    clear H3
    by_cases c1 : boot = tb
    · subst c1
      have e1 : kinV ⟨true, boot, top, sm⟩ boot seq = .iface 81 (.agg #[.int .i64 top, .int .i64 seq]) := by simp [kinV]
      have e2 : kinO ⟨true, boot, top, sm⟩ boot = 0 := by simp [kinO]
      have e3 : numO ⟨true, boot, top, sm⟩ boot seq = (if nearO top seq = true then near top seq else -1) := by simp [numO, kinO]
      rw [e1] at hk
      rw [e2, e3]
      have HK := Lib.hid hk
      clear hk e1 e2 e3
      obtain ⟨nv, hnv⟩ : ∃ nv, nv = (if nearO top seq = true then near top seq else -1) := ⟨_, rfl⟩
      rw [← hnv]
      have HNV := Lib.hid hnv
      clear hnv
      have q1 := ta1
      have q2 := ta2
      have q3 := ta3
      have q4 := ta4
      have q5 := ta5
      go_enter Try.func33, Try.ntmps33
      go_wp2_with fail
      refine calls_world (fun W => Below w.heap.size w W) (by go_grown) fun W1 hb1 => ?_
      have HB1 := Lib.hid hb1
      clear hb1
      refine (HK.out W1).mono ?_
      rintro e W2 ⟨rfl, hk⟩
      have HB2 := Lib.hid (Btrans HB1.out hk)
      clear HB1 hk
      go_wp2_with fail
      refine calls_world (fun W => Below w.heap.size w W) (Btrans HB2.out (by go_grown)) fun W3 hb3 => ?_
      have HB3 := Lib.hid hb3
      clear hb3
      refine (goes_any _ _ _ H4.out).mono ?_
      rw [← HNV.out]
      rintro e W4 ⟨rfl, hk⟩
      have HB4 := Lib.hid (Btrans HB3.out hk)
      clear HB3 hk HB2
      go_wp2
      go_ret2
      exact ⟨by simp, HB4.out⟩
    · by_cases c2 : boot = (tb + 1) % 256
      ·
        have e1 : kinV ⟨true, tb, top, sm⟩ boot seq = .iface 84 (.agg #[.int .i64 seq, .int .i64 4]) := by unfold kinV; dsimp only; rw [if_neg (by simp), if_neg c1, if_pos c2]
        have e2 : kinO ⟨true, tb, top, sm⟩ boot = 1 := by unfold kinO; dsimp only; rw [if_neg (by simp), if_neg c1, if_pos c2]
        have e3 : numO ⟨true, tb, top, sm⟩ boot seq = seq := by unfold numO; rw [e2, if_neg (by decide)]
        rw [e1] at hk
        rw [e2, e3]
        have HK := Lib.hid hk
        clear hk e1 e2 e3
        clear c1 c2
        have q1 := ta1
        have q2 := ta2
        have q3 := ta3
        have q4 := ta4
        have q5 := ta5
        go_enter Try.func33, Try.ntmps33
        go_wp2_with fail
        refine calls_world (fun W => Below w.heap.size w W) (by go_grown) fun W1 hb1 => ?_
        have HB1 := Lib.hid hb1
        clear hb1
        refine (HK.out W1).mono ?_
        rintro e W2 ⟨rfl, hk⟩
        have HB2 := Lib.hid (Btrans HB1.out hk)
        clear HB1 hk
        go_wp2_with fail
        refine calls_world (fun W => Below w.heap.size w W) (Btrans HB2.out (by go_grown)) fun W3 hb3 => ?_
        have HB3 := Lib.hid hb3
        clear hb3
        refine (begins_any _ _ _).mono ?_
        rintro e W4 ⟨rfl, hk⟩
        have HB4 := Lib.hid (Btrans HB3.out hk)
        clear HB3 hk HB2
        go_wp2
        go_ret2
        exact ⟨by simp, HB4.out⟩
      ·
        have e1 : kinV ⟨true, tb, top, sm⟩ boot seq = .iface 106 (.agg #[.int .i64 seq]) := by unfold kinV; dsimp only; rw [if_neg (by simp), if_neg c1, if_neg c2]
        have e2 : kinO ⟨true, tb, top, sm⟩ boot = 2 := by unfold kinO; dsimp only; rw [if_neg (by simp), if_neg c1, if_neg c2]
        have e3 : numO ⟨true, tb, top, sm⟩ boot seq = seq := by unfold numO; rw [e2, if_neg (by decide)]
        rw [e1] at hk
        rw [e2, e3]
        have HK := Lib.hid hk
        clear hk e1 e2 e3
        clear c1 c2
        have q1 := ta1
        have q2 := ta2
        have q3 := ta3
        have q4 := ta4
        have q5 := ta5
        go_enter Try.func33, Try.ntmps33
        go_wp2_with fail
        refine calls_world (fun W => Below w.heap.size w W) (by go_grown) fun W1 hb1 => ?_
        have HB1 := Lib.hid hb1
        clear hb1
        refine (HK.out W1).mono ?_
        rintro e W2 ⟨rfl, hk⟩
        have HB2 := Lib.hid (Btrans HB1.out hk)
        clear HB1 hk
        go_wp2_with fail
        refine calls_world (fun W => Below w.heap.size w W) (Btrans HB2.out (by go_grown)) fun W3 hb3 => ?_
        have HB3 := Lib.hid hb3
        clear hb3
        refine (strays_any _ _).mono ?_
        rintro e W4 ⟨rfl, hk⟩
        have HB4 := Lib.hid (Btrans HB3.out hk)
        clear HB3 hk HB2
        go_wp2
        go_ret2
        exact ⟨by simp, HB4.out⟩
end Go.Proofs.Ytgklbmhihfmagaa
