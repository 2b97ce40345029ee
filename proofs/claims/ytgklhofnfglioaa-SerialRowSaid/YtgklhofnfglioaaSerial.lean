/- Layer 6: contracts, and the laws, walked. -/
import Derived.Test.YtgklhofnfglioaaMem
namespace Go.Proofs.Ytgklhofnfglioaa
open Go.ChangeShapes Go.WideShapes Go.ChangeAt Go.RowKit
set_option linter.unusedVariables false
set_option linter.unusedSimpArgs false

/-- the number near base that is left as seq -/
def near (base seq : Int) : Int := base + ((seq - base + 32768) % 65536 - 32768)
def nearO (base seq : Int) : Bool := decide (0 ≤ seq ∧ seq ≤ 65535 ∧ 0 ≤ near base seq)
def nearN (base seq : Int) : Int := if nearO base seq = true then near base seq else 0
theorem near_wrap (base seq : Int) (h : 0 ≤ base) (h2 : base ≤ 2305843009213693952) (h0 : 0 ≤ seq) (h1 : seq ≤ 65535) :
    wrap64 (base + wrap64 (IntKind.i16.wrap (IntKind.u16.wrap (seq - IntKind.u16.wrap base)))) = near base seq := by
  unfold near
  simp only [wrap64, IntKind.wrap, IntKind.bits, IntKind.signed]
  simp
  omega

theorem low_any (i : Int) (w : World) (h : 0 ≤ i) (h2 : i ≤ 4611686018427387904) :
    Calls Try.prog 13 #[.int .i64 i] w fun e w' => e = .returned (.int .i64 (i % 65536)) ∧ w = w' := by
  have hw : wrap64 (IntKind.u16.wrap i) = i % 65536 := by
    simp only [wrap64, IntKind.wrap_u16]
    omega
  go_enter Try.func13, Try.ntmps13
  go_wp2
  go_ret
  exact ⟨by simp [hw], rfl⟩
theorem unwrap_any (base seq : Int) (w : World) (h : 0 ≤ base) (h2 : base ≤ 2305843009213693952) :
    Calls Try.prog 11 #[.int .i64 base, .int .i64 seq] w fun e w' => e = .returned (.tuple #[.int .i64 (nearN base seq), .bool (nearO base seq)]) ∧ w = w' := by
  by_cases h0 : seq < 0
  · have e1 : nearO base seq = false := by unfold nearO; simp; omega
    have e2 : nearN base seq = 0 := by unfold nearN; rw [e1]; rfl
    go_enter Try.func11, Try.ntmps11
    go_wp2
    go_ret2
    exact ⟨by simp [e1, e2], rfl⟩
  by_cases h1 : 65535 < seq
  · have e1 : nearO base seq = false := by unfold nearO; simp; omega
    have e2 : nearN base seq = 0 := by unfold nearN; rw [e1]; rfl
    go_enter Try.func11, Try.ntmps11
    go_wp2
    go_ret2
    exact ⟨by simp [e1, e2], rfl⟩
  have hw := near_wrap base seq h h2 (by omega) (by omega)
  by_cases hn : near base seq < 0
  · have e1 : nearO base seq = false := by unfold nearO; simp; omega
    have e2 : nearN base seq = 0 := by unfold nearN; rw [e1]; rfl
    go_enter Try.func11, Try.ntmps11
    go_wp2
    go_ret2
    exact ⟨by simp [e1, e2], rfl⟩
  · have e1 : nearO base seq = true := by unfold nearO; simp; omega
    have e2 : nearN base seq = near base seq := by unfold nearN; rw [e1]; rfl
    have E1 := Lib.hid e1
    have E2 := Lib.hid e2
    clear e1 e2
    go_enter Try.func11, Try.ntmps11
    go_wp2
    go_ret2
    exact ⟨by simp [E1.out, E2.out], rfl⟩

theorem rlow_any (i : Int) (w : World) (h : 0 ≤ i) (h2 : i ≤ 4611686018427387904) :
    Calls Try.prog 14 #[.int .i64 i] w fun e w' => e = .returned (.int .i64 (i % 65536)) ∧ w = w' := by
  go_enter Try.func14, Try.ntmps14
  go_wp2
  go_ret
  exact ⟨rfl, rfl⟩

theorem runwrap_any (base seq : Int) (w : World) (h : 0 ≤ base) (h2 : base ≤ 2305843009213693952) :
    Calls Try.prog 12 #[.int .i64 base, .int .i64 seq] w fun e w' => e = .returned (.tuple #[.int .i64 (nearN base seq), .bool (nearO base seq)]) ∧ w = w' := by
  have hr : nearO base seq = decide (0 ≤ seq ∧ seq ≤ 65535 ∧ 0 ≤ near base seq) := rfl
  have hn : nearN base seq = if 0 ≤ seq ∧ seq ≤ 65535 ∧ 0 ≤ near base seq then near base seq else 0 := by unfold nearN; rw [hr]; simp
  unfold near at hr hn
  have HR := Lib.hid hr
  have HN := Lib.hid hn
  clear hr hn
  go_enter Try.func12, Try.ntmps12
  go_wp2
  all_goals
    go_ret2
    refine ⟨?_, rfl⟩
    rw [HR.out, HN.out]
    first
    | (rw [if_neg (by omega), show decide (0 ≤ seq ∧ seq ≤ 65535 ∧ 0 ≤ base + ((seq - base + 32768) % 65536 - 32768)) = false from decide_eq_false (by omega)]; simp; done)
    | (rw [if_pos (by omega), show decide (0 ≤ seq ∧ seq ≤ 65535 ∧ 0 ≤ base + ((seq - base + 32768) % 65536 - 32768)) = true from decide_eq_true (by omega)]; simp; omega)

theorem head_any (w : World) :
    Calls Try.prog 9 #[] w fun e w' => e = .returned (.bool true) ∧ w = w' := by
  have a1 : nearN 65535 2 = 65538 := by decide
  have a2 : nearO 65535 2 = true := by decide
  have a3 : nearN 65540 65535 = 65535 := by decide
  have a4 : nearO 65540 65535 = true := by decide
  have a5 : nearO 3 65535 = false := by decide
  have a6 : nearO 3 65536 = false := by decide
  go_enter Try.func9, Try.ntmps9
  go_wp2_with fail
  refine (unwrap_any _ _ _ (by omega) (by omega)).mono ?_
  rintro e w1 ⟨rfl, rfl⟩
  go_wp2_with fail
  refine (unwrap_any _ _ _ (by omega) (by omega)).mono ?_
  rintro e w1 ⟨rfl, rfl⟩
  go_wp2_with fail
  refine (unwrap_any _ _ _ (by omega) (by omega)).mono ?_
  rintro e w1 ⟨rfl, rfl⟩
  go_wp2_with fail
  refine (unwrap_any _ _ _ (by omega) (by omega)).mono ?_
  rintro e w1 ⟨rfl, rfl⟩
  go_wp2_with fail
  refine (low_any _ _ (by omega) (by omega)).mono ?_
  rintro e w1 ⟨rfl, rfl⟩
  go_wp2
  go_ret
  exact ⟨rfl, rfl⟩

def goodB (b : Int) : Bool := decide (0 ≤ b ∧ b ≤ 1152921504606846976)
theorem goodP {b : Int} (h : goodB b = true) : 0 ≤ b ∧ b ≤ 1152921504606846976 := by unfold goodB at h; simpa using h
theorem good_any (b : Int) (w : World) :
    Calls Try.prog 10 #[.int .i64 b] w fun e w' => e = .returned (.bool (goodB b)) ∧ w = w' := by
  go_enter Try.func10, Try.ntmps10
  go_wp2
  all_goals
    go_ret
    refine ⟨ret_bool ?_, rfl⟩
    unfold goodB
    rw [Bool.eq_iff_iff]
    simp only [decide_eq_true_eq, Bool.false_eq_true]
    first | omega | (constructor <;> intro h <;> first | omega | exact h.elim)

set_option maxHeartbeats 1000000 in
theorem walk_SerialTells (base seq : Int) (w : World) (w0 : (Lit.int .i64 base).wf = true) (w1 : (Lit.int .i64 seq).wf = true) :
    Calls Try.prog 3 #[.int .i64 base, .int .i64 seq] w fun e w' => e = .returned (.bool true) ∧ Below w.heap.size w w' := by
  clear w0 w1
  go_enter Try.func3, Try.ntmps3
  go_wp2_with fail
  refine (head_any _).mono ?_
  rintro e w1 ⟨rfl, rfl⟩
  go_wp2_with fail
  refine (good_any base _).mono ?_
  rintro e w2 ⟨rfl, rfl⟩
  rcases hg : goodB base with _ | _
  · go_wp2
    go_ret
    exact ⟨rfl, Below.refl _ _⟩
  have hp := goodP hg
  go_wp2_with fail
  refine (unwrap_any _ _ _ (by omega) (by omega)).mono ?_
  rintro e w2 ⟨rfl, rfl⟩
  go_wp2_with fail
  refine (runwrap_any _ _ _ (by omega) (by omega)).mono ?_
  rintro e w2 ⟨rfl, rfl⟩
  go_wp2_with fail
  refine (low_any _ _ (by omega) (by omega)).mono ?_
  rintro e w2 ⟨rfl, rfl⟩
  go_wp2_with fail
  refine (rlow_any _ _ (by omega) (by omega)).mono ?_
  rintro e w2 ⟨rfl, rfl⟩
  go_wp2
  go_ret
  exact ⟨by simp, Below.refl _ _⟩

theorem near_rg (b s : Int) : b - 32768 ≤ near b s ∧ near b s ≤ b + 32767 := by unfold near; omega
theorem near_mod (b s : Int) (h0 : 0 ≤ s) (h1 : s ≤ 65535) : near b s % 65536 = s := by unfold near; omega

set_option maxHeartbeats 1000000 in
theorem walk_SerialNear (base seq : Int) (w : World) (w0 : (Lit.int .i64 base).wf = true) (w1 : (Lit.int .i64 seq).wf = true) :
    Calls Try.prog 4 #[.int .i64 base, .int .i64 seq] w fun e w' => e = .returned (.bool true) ∧ Below w.heap.size w w' := by
  clear w0 w1
  go_enter Try.func4, Try.ntmps4
  go_wp2_with fail
  refine (head_any _).mono ?_
  rintro e w1 ⟨rfl, rfl⟩
  go_wp2_with fail
  refine (good_any base _).mono ?_
  rintro e w2 ⟨rfl, rfl⟩
  rcases hg : goodB base with _ | _
  · go_wp2
    go_ret
    exact ⟨rfl, Below.refl _ _⟩
  have hp := goodP hg
  go_wp2_with fail
  refine (unwrap_any _ _ _ (by omega) (by omega)).mono ?_
  rintro e w2 ⟨rfl, rfl⟩
  have hrg := near_rg base seq
  rcases ho : nearO base seq with _ | _
  · have e2 : nearN base seq = 0 := by unfold nearN; rw [ho]; rfl
    have ho' := Lib.hid ho
    have hno : ¬ (0 ≤ seq ∧ seq ≤ 65535 ∧ 0 ≤ near base seq) := by unfold nearO at ho; simpa using ho
    have HN := Lib.hid hno
    clear hno hrg
    go_wp2
    all_goals
      go_ret
      refine ⟨?_, Below.refl _ _⟩
      have h1 := HN.out
      have h2 := near_rg base seq
      have h3 : near base seq < base - 32768 + 65536 := by omega
      first
      | rfl
      | (simp; done)
      | (simp; omega)
  · have hyes : 0 ≤ seq ∧ seq ≤ 65535 ∧ 0 ≤ near base seq := by unfold nearO at ho; simpa using ho
    have e2 : nearN base seq = near base seq := by unfold nearN; rw [ho]; rfl
    have e3 := near_mod base seq hyes.1 hyes.2.1
    obtain ⟨y0, y1, y2⟩ := hyes
    obtain ⟨r0, r1⟩ := hrg
    go_wp2
    go_ret
    exact ⟨by simp [*], Below.refl _ _⟩

set_option maxHeartbeats 1000000 in
theorem walk_SerialBack (base k : Int) (w : World) (w0 : (Lit.int .i64 base).wf = true) (w1 : (Lit.int .i64 k).wf = true) :
    Calls Try.prog 5 #[.int .i64 base, .int .i64 k] w fun e w' => e = .returned (.bool true) ∧ Below w.heap.size w w' := by
  clear w0 w1
  go_enter Try.func5, Try.ntmps5
  go_wp2_with fail
  refine (head_any _).mono ?_
  rintro e w1 ⟨rfl, rfl⟩
  go_wp2_with fail
  refine (good_any base _).mono ?_
  rintro e w2 ⟨rfl, rfl⟩
  rcases hg : goodB base with _ | _
  · go_wp2
    go_ret
    exact ⟨rfl, Below.refl _ _⟩
  have hp := goodP hg
  by_cases c1 : k < -32768
  · go_wp2
    all_goals
      go_ret
      exact ⟨rfl, Below.refl _ _⟩
  by_cases c2 : 32767 < k
  · go_wp2
    all_goals
      go_ret
      exact ⟨rfl, Below.refl _ _⟩
  by_cases c3 : base + k < 0
  · go_wp2
    all_goals
      go_ret
      exact ⟨rfl, Below.refl _ _⟩
  by_cases c4 : 1152921504606846976 < base + k
  · go_wp2
    all_goals
      go_ret
      exact ⟨rfl, Below.refl _ _⟩
  have f1 : near base ((base + k) % 65536) = base + k := by unfold near; omega
  have f2 : nearO base ((base + k) % 65536) = true := by unfold nearO; rw [f1]; simp; omega
  have f3 : nearN base ((base + k) % 65536) = base + k := by unfold nearN; rw [f2, f1]; rfl
  clear f1
  go_wp2_with fail
  refine (low_any _ _ (by omega) (by omega)).mono ?_
  rintro e w2 ⟨rfl, rfl⟩
  go_wp2_with fail
  refine (unwrap_any _ _ _ (by omega) (by omega)).mono ?_
  rintro e w2 ⟨rfl, rfl⟩
  go_wp2
  go_ret
  exact ⟨by simp, Below.refl _ _⟩

set_option maxHeartbeats 1000000 in
theorem walk_SerialRound (base seq : Int) (w : World) (w0 : (Lit.int .i64 base).wf = true) (w1 : (Lit.int .i64 seq).wf = true) :
    Calls Try.prog 7 #[.int .i64 base, .int .i64 seq] w fun e w' => e = .returned (.bool true) ∧ Below w.heap.size w w' := by
  clear w0 w1
  go_enter Try.func7, Try.ntmps7
  go_wp2_with fail
  refine (head_any _).mono ?_
  rintro e w1 ⟨rfl, rfl⟩
  go_wp2_with fail
  refine (good_any base _).mono ?_
  rintro e w2 ⟨rfl, rfl⟩
  rcases hg : goodB base with _ | _
  · go_wp2
    go_ret
    exact ⟨rfl, Below.refl _ _⟩
  have hp := goodP hg
  by_cases c1 : 576460752303423488 < base
  · go_wp2
    all_goals
      go_ret
      exact ⟨rfl, Below.refl _ _⟩
  have f1 : near (base + 65536) seq = near base seq + 65536 := by unfold near; omega
  have r1 := near_rg base seq
  have f2 : (base + 65536) % 65536 = base % 65536 := by omega
  have f3 : nearO (base + 65536) seq = decide (0 ≤ seq ∧ seq ≤ 65535) := by unfold nearO; rw [f1, Bool.eq_iff_iff]; simp only [decide_eq_true_eq]; omega
  have f4 : nearN (base + 65536) seq = if 0 ≤ seq ∧ seq ≤ 65535 then near base seq + 65536 else 0 := by unfold nearN; rw [f3, f1]; simp
  rcases hs : decide (0 ≤ seq ∧ seq ≤ 65535) with _ | _
  · have hs' : ¬ (0 ≤ seq ∧ seq ≤ 65535) := of_decide_eq_false hs
    have g1 : nearO base seq = false := by unfold nearO; exact decide_eq_false (by omega)
    have g2 : nearO (base + 65536) seq = false := by rw [f3, hs]
    have HS := Lib.hid hs'
    clear hs' f3 f4 hs f1 r1
    go_wp2_with fail
    refine (unwrap_any _ _ _ (by omega) (by omega)).mono ?_
    rintro e w2 ⟨rfl, rfl⟩
    go_wp2_with fail
    refine (unwrap_any _ _ _ (by omega) (by omega)).mono ?_
    rintro e w2 ⟨rfl, rfl⟩
    by_cases s0 : seq < 0
    case' neg => have s1 : 65535 < seq := by have := HS.out; omega
    all_goals
      go_wp2_with fail
      refine (low_any _ _ (by omega) (by omega)).mono ?_
      rintro e w2 ⟨rfl, rfl⟩
      go_wp2_with fail
      refine (low_any _ _ (by omega) (by omega)).mono ?_
      rintro e w2 ⟨rfl, rfl⟩
      go_wp2
      go_ret
      exact ⟨by first | (simp; done) | (simp; omega), Below.refl _ _⟩
  · have hs' : 0 ≤ seq ∧ seq ≤ 65535 := of_decide_eq_true hs
    have g2 : nearO (base + 65536) seq = true := by rw [f3, hs]
    have g3 : nearN (base + 65536) seq = near base seq + 65536 := by rw [f4, if_pos hs']
    obtain ⟨s0, s1⟩ := hs'
    clear f3 f4 f1 hs
    rcases ho : nearO base seq with _ | _
    case' true => have g4 : nearN base seq = near base seq := by unfold nearN; rw [ho]; rfl
    case' false => have g4 : nearN base seq = 0 := by unfold nearN; rw [ho]; rfl
    all_goals
      go_wp2_with fail
      refine (unwrap_any _ _ _ (by omega) (by omega)).mono ?_
      rintro e w2 ⟨rfl, rfl⟩
      go_wp2_with fail
      refine (unwrap_any _ _ _ (by omega) (by omega)).mono ?_
      rintro e w2 ⟨rfl, rfl⟩
      go_wp2_with fail
      refine (low_any _ _ (by omega) (by omega)).mono ?_
      rintro e w2 ⟨rfl, rfl⟩
      go_wp2_with fail
      refine (low_any _ _ (by omega) (by omega)).mono ?_
      rintro e w2 ⟨rfl, rfl⟩
      go_wp2
      go_ret
      exact ⟨by simp, Below.refl _ _⟩

set_option maxHeartbeats 1000000 in
theorem walk_SerialOrder (i : Int) (w : World) (w0 : (Lit.int .i64 i).wf = true) :
    Calls Try.prog 8 #[.int .i64 i] w fun e w' => e = .returned (.bool true) ∧ Below w.heap.size w w' := by
  clear w0
  go_enter Try.func8, Try.ntmps8
  go_wp2_with fail
  refine (head_any _).mono ?_
  rintro e w1 ⟨rfl, rfl⟩
  go_wp2_with fail
  refine (good_any i _).mono ?_
  rintro e w2 ⟨rfl, rfl⟩
  rcases hg : goodB i with _ | _
  · go_wp2
    go_ret
    exact ⟨rfl, Below.refl _ _⟩
  have hp := goodP hg
  by_cases c1 : i = 1152921504606846976
  · subst c1
    go_wp2
    go_ret
    exact ⟨rfl, Below.refl _ _⟩
  have c2 : (i == 1152921504606846976) = false := by simp [c1]
  have c3 : i < 1152921504606846976 := by omega
  clear c1
  go_wp2_with fail
  refine (low_any _ _ (by omega) (by omega)).mono ?_
  rintro e w2 ⟨rfl, rfl⟩
  go_wp2_with fail
  refine (low_any _ _ (by omega) (by omega)).mono ?_
  rintro e w2 ⟨rfl, rfl⟩
  go_wp2
  all_goals
    go_ret
    refine ⟨?_, Below.refl _ _⟩
    simp
    first | done | omega
end Go.Proofs.Ytgklhofnfglioaa
