/- Layer 17: the laws, walked. -/
import Derived.Test.YtjmlpgnmooiheaaKthree
namespace Go.Proofs.Ytjmlpgnmooiheaa
open Go.ChangeShapes Go.WideShapes Go.ChangeAt Go.RowKit
set_option linter.unusedVariables false
set_option linter.unusedSimpArgs false

theorem tr1 : tr 1 = 1 := rfl
theorem tr2 : tr 2 = 2 := rfl
theorem tr3 : tr 3 = 3 := rfl
theorem tr7 : tr 7 = 3 := rfl
theorem tr_id {a : Int} (h : Tr a) : tr a = a := by rcases h with rfl | rfl | rfl <;> rfl

set_option maxHeartbeats 1000000 in
theorem head_any (w : World) :
    Calls Try.prog 9 #[] w fun e w' => e = .returned (.bool true) ∧ Below w.heap.size w w' := by
  have a1 : and3 (tr 3) (tr 1) = 1 := rfl
  have a2 : and3 (tr 3) (tr 2) = 3 := rfl
  have a3 : or3 (tr 3) (tr 2) = 2 := rfl
  have a4 : not3 (tr 3) = 3 := rfl
  have a5 : not3 (tr 2) = 1 := rfl
  have a6 : all3 [] = 2 := rfl
  have a7 : any3 [] = 1 := rfl
  have a8 : and3 (tr 7) (tr 7) = 3 := rfl
  go_enter Try.func9, Try.ntmps9
  go_wp2_with (first | (go_at_call 18; refine (all_any _ [] _ Row.nil_).mono ?_; rintro e w2 ⟨rfl, hb2⟩) | (go_at_call 20; refine (any_any _ [] _ Row.nil_).mono ?_; rintro e w2 ⟨rfl, hb2⟩) | (go_at_call 12; refine (and_any _ _ _).mono ?_; rintro e w2 ⟨rfl, hb2⟩) | (go_at_call 14; refine (or_any _ _ _).mono ?_; rintro e w2 ⟨rfl, hb2⟩) | (go_at_call 10; refine (not_any _ _).mono ?_; rintro e w2 ⟨rfl, hb2⟩) | (go_at_call 16; refine (of_bool _ _).mono ?_; rintro e w2 ⟨rfl, rfl⟩))
  go_ret
  refine ⟨rfl, ?_⟩
  repeat (first | exact Below.refl _ _ | refine Btrans ?_ (by assumption))

theorem truth_any (x : Int) (w : World) (h0 : 0 ≤ x) (h1 : x ≤ 255) :
    Calls Try.prog 22 #[.int .u8 x] w fun e w' => e = .returned (.int .i64 (x % 3 + 1)) ∧ w = w' := by
  go_enter Try.func22, Try.ntmps22
  go_wp2
  go_ret
  exact ⟨rfl, rfl⟩
theorem truth_tr (x : Int) : Tr (x % 3 + 1) := by unfold Tr; omega

/-- what And, Or and Not keep, of three truths -/
theorem laws3 (a b c : Int) (ha : Tr a) (hb : Tr b) (hc : Tr c) :
    and3 b a = and3 a b ∧ or3 b a = or3 a b ∧ and3 (and3 a b) c = and3 a (and3 b c) ∧ or3 (or3 a b) c = or3 a (or3 b c) ∧
    or3 (and3 a b) (and3 a c) = and3 a (or3 b c) ∧ or3 (not3 a) (not3 b) = not3 (and3 a b) ∧ not3 (not3 a) = a ∧ and3 a (or3 a b) = a ∧ and3 a a = a := by
  rcases ha with rfl | rfl | rfl <;> rcases hb with rfl | rfl | rfl <;> rcases hc with rfl | rfl | rfl <;> decide
theorem not_tr (a : Int) (ha : Tr a) : Tr (not3 a) := by unfold not3 Tr; (repeat' split) <;> omega

set_option maxHeartbeats 2000000 in
theorem walk_KthreeLaws (x y z : Int) (w : World) (w0 : (Lit.int .u8 x).wf = true) (w1 : (Lit.int .u8 y).wf = true) (w2 : (Lit.int .u8 z).wf = true) :
    Calls Try.prog 4 #[.int .u8 x, .int .u8 y, .int .u8 z] w fun e w' => e = .returned (.bool true) ∧ Below w.heap.size w w' := by
  have bx := wf_u8 w0
  have bY := wf_u8 w1
  have bz := wf_u8 w2
  clear w0 w1 w2
  go_enter Try.func4, Try.ntmps4
  go_wp2_with fail
  refine (head_any _).mono ?_
  rintro e w1 ⟨rfl, hb1⟩
  go_wp2_with fail
  refine (truth_any x _ bx.1 bx.2).mono ?_
  rintro e w2 ⟨rfl, rfl⟩
  go_wp2_with fail
  refine (truth_any y _ bY.1 bY.2).mono ?_
  rintro e w2 ⟨rfl, rfl⟩
  go_wp2_with fail
  refine (truth_any z _ bz.1 bz.2).mono ?_
  rintro e w2 ⟨rfl, rfl⟩
  have ta := truth_tr x
  have tb := truth_tr y
  have tc := truth_tr z
  generalize x % 3 + 1 = a at *
  generalize y % 3 + 1 = b at *
  generalize z % 3 + 1 = c at *
  obtain ⟨l1, l2, l3, l4, l5, l6, l7, l8, l9⟩ := laws3 a b c ta tb tc
  have e1 := tr_id ta
  have e2 := tr_id tb
  have e3 := tr_id tc
  have e4 := tr_id (and_tr a b ta tb)
  have e5 := tr_id (and_tr b c tb tc)
  have e6 := tr_id (and_tr a c ta tc)
  have e7 := tr_id (or_tr a b ta tb)
  have e8 := tr_id (or_tr b c tb tc)
  have e9 := tr_id (not_tr a ta)
  have e10 := tr_id (not_tr b tb)
  clear ta tb tc bx bY bz
  go_wp2_with (first | (go_at_call 12; refine (and_any _ _ _).mono ?_; rintro e w2 ⟨rfl, hb2⟩) | (go_at_call 14; refine (or_any _ _ _).mono ?_; rintro e w2 ⟨rfl, hb2⟩) | (go_at_call 10; refine (not_any _ _).mono ?_; rintro e w2 ⟨rfl, hb2⟩) | (go_at_call 16; refine (of_bool _ _).mono ?_; rintro e w2 ⟨rfl, rfl⟩))
  go_ret
  refine ⟨by simp, ?_⟩
  repeat (first | exact Below.refl _ _ | refine Btrans ?_ (by assumption))
end Go.Proofs.Ytjmlpgnmooiheaa
