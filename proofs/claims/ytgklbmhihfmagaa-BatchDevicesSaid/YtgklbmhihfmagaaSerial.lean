/- Layer 6: contracts, and the laws, walked. -/
import Derived.Test.YtgklbmhihfmagaaMem
namespace Go.Proofs.Ytgklbmhihfmagaa
open Go.ChangeShapes Go.WideShapes Go.ChangeAt Go.RowKit
set_option linter.unusedVariables false
set_option linter.unusedSimpArgs false

/-- the number near base that is left as seq -/
def near (base seq : Int) : Int := base + ((seq - base + 32768) % 65536 - 32768)
def nearO (base seq : Int) : Bool := decide (0 ≤ seq ∧ seq ≤ 65535 ∧ 0 ≤ near base seq)
def nearN (base seq : Int) : Int := if nearO base seq = true then near base seq else 0
theorem near_wrap (base seq : Int) (h : 0 ≤ base) (h2 : base ≤ 2305843009213693952) (h0 : 0 ≤ seq) (h1 : seq ≤ 65535) :
    wrap64 (base + wrap64 (IntKind.i16.wrap (IntKind.u16.wrap (seq - IntKind.u16.wrap base)))) = near base seq := by
  unfold near
  simp only [wrap64, IntKind.wrap, IntKind.bits, IntKind.signed]
  simp
  omega

theorem unwrap_any (base seq : Int) (w : World) (h : 0 ≤ base) (h2 : base ≤ 2305843009213693952) :
    Calls Try.prog 63 #[.int .i64 base, .int .i64 seq] w fun e w' => e = .returned (.tuple #[.int .i64 (nearN base seq), .bool (nearO base seq)]) ∧ w = w' := by
  by_cases h0 : seq < 0
  · have e1 : nearO base seq = false := by unfold nearO; simp; omega
    have e2 : nearN base seq = 0 := by unfold nearN; rw [e1]; rfl
    go_enter Try.func63, Try.ntmps63
    go_wp2
    go_ret2
    exact ⟨by simp [e1, e2], rfl⟩
  by_cases h1 : 65535 < seq
  · have e1 : nearO base seq = false := by unfold nearO; simp; omega
    have e2 : nearN base seq = 0 := by unfold nearN; rw [e1]; rfl
    go_enter Try.func63, Try.ntmps63
    go_wp2
    go_ret2
    exact ⟨by simp [e1, e2], rfl⟩
  have hw := near_wrap base seq h h2 (by omega) (by omega)
  by_cases hn : near base seq < 0
  · have e1 : nearO base seq = false := by unfold nearO; simp; omega
    have e2 : nearN base seq = 0 := by unfold nearN; rw [e1]; rfl
    go_enter Try.func63, Try.ntmps63
    go_wp2
    go_ret2
    exact ⟨by simp [e1, e2], rfl⟩
  · have e1 : nearO base seq = true := by unfold nearO; simp; omega
    have e2 : nearN base seq = near base seq := by unfold nearN; rw [e1]; rfl
    have E1 := Lib.hid e1
    have E2 := Lib.hid e2
    clear e1 e2
    go_enter Try.func63, Try.ntmps63
    go_wp2
    go_ret2
    exact ⟨by simp [E1.out, E2.out], rfl⟩

theorem runwrap_any (base seq : Int) (w : World) (h : 0 ≤ base) (h2 : base ≤ 2305843009213693952) :
    Calls Try.prog 37 #[.int .i64 base, .int .i64 seq] w fun e w' => e = .returned (.tuple #[.int .i64 (nearN base seq), .bool (nearO base seq)]) ∧ w = w' := by
  have hr : nearO base seq = decide (0 ≤ seq ∧ seq ≤ 65535 ∧ 0 ≤ near base seq) := rfl
  have hn : nearN base seq = if 0 ≤ seq ∧ seq ≤ 65535 ∧ 0 ≤ near base seq then near base seq else 0 := by unfold nearN; rw [hr]; simp
  unfold near at hr hn
  have HR := Lib.hid hr
  have HN := Lib.hid hn
  clear hr hn
  go_enter Try.func37, Try.ntmps37
  go_wp2
  all_goals
    go_ret2
    refine ⟨?_, rfl⟩
    rw [HR.out, HN.out]
    first
    | (rw [if_neg (by omega), show decide (0 ≤ seq ∧ seq ≤ 65535 ∧ 0 ≤ base + ((seq - base + 32768) % 65536 - 32768)) = false from decide_eq_false (by omega)]; simp; done)
    | (rw [if_pos (by omega), show decide (0 ≤ seq ∧ seq ≤ 65535 ∧ 0 ≤ base + ((seq - base + 32768) % 65536 - 32768)) = true from decide_eq_true (by omega)]; simp; omega)

def goodB (b : Int) : Bool := decide (0 ≤ b ∧ b ≤ 1152921504606846976)
theorem goodP {b : Int} (h : goodB b = true) : 0 ≤ b ∧ b ≤ 1152921504606846976 := by unfold goodB at h; simpa using h
theorem near_rg (b s : Int) : b - 32768 ≤ near b s ∧ near b s ≤ b + 32767 := by unfold near; omega
theorem near_mod (b s : Int) (h0 : 0 ≤ s) (h1 : s ≤ 65535) : near b s % 65536 = s := by unfold near; omega

end Go.Proofs.Ytgklbmhihfmagaa
