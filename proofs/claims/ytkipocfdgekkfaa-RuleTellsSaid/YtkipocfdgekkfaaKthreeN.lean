/- Layer 17: the document's answers, and the laws of rows, walked. -/
import Derived.Test.YtkipocfdgekkfaaKthreeL
import Derived.Laws.AppendOwn
namespace Go.Proofs.Ytkipocfdgekkfaa
open Go.ChangeShapes Go.WideShapes Go.ChangeAt Go.RowKit
set_option linter.unusedVariables false
set_option linter.unusedSimpArgs false

theorem el64 : Elem Try.prog 29 3 1 8 := Elem.mk' (z := .int .i64 0) Try.underlying29 (by kernel_rfl) rfl (by omega)

theorem tr_and (a b : Int) : and3 (tr a) (tr b) = and3 a b := by unfold and3 tr; (repeat' split) <;> omega
theorem tr_or (a b : Int) : or3 (tr a) (tr b) = or3 a b := by unfold or3 tr; (repeat' split) <;> omega
theorem tr_not (a : Int) : not3 (tr a) = not3 a := by unfold not3 tr; (repeat' split) <;> omega

theorem rnot_any (a : Int) (w : World) :
    Calls Try.prog 19 #[.int .i64 a] w fun e w' => e = .returned (.int .i64 (not3 a)) ∧ w = w' := by
  go_enter Try.func19, Try.ntmps19
  go_wp2
  all_goals
    go_ret
    refine ⟨ret_int ?_, rfl⟩
    simp_all [not3]
theorem rand_any (a b : Int) (w : World) :
    Calls Try.prog 20 #[.int .i64 a, .int .i64 b] w fun e w' => e = .returned (.int .i64 (and3 a b)) ∧ w = w' := by
  by_cases h1 : a = 1 <;> by_cases h2 : b = 1 <;> by_cases h3 : a = 2 <;> by_cases h4 : b = 2
  all_goals first | omega | skip
  all_goals
    first | subst h1 | skip
    first | subst h2 | skip
    first | subst h3 | skip
    first | subst h4 | skip
    go_enter Try.func20, Try.ntmps20
    go_wp2
    all_goals
      go_ret
      refine ⟨ret_int ?_, rfl⟩
      simp_all [and3]
theorem ror_any (a b : Int) (w : World) :
    Calls Try.prog 21 #[.int .i64 a, .int .i64 b] w fun e w' => e = .returned (.int .i64 (or3 a b)) ∧ w = w' := by
  by_cases h1 : a = 1 <;> by_cases h2 : b = 1 <;> by_cases h3 : a = 2 <;> by_cases h4 : b = 2
  all_goals first | omega | skip
  all_goals
    first | subst h1 | skip
    first | subst h2 | skip
    first | subst h3 | skip
    first | subst h4 | skip
    go_enter Try.func21, Try.ntmps21
    go_wp2
    all_goals
      go_ret
      refine ⟨ret_int ?_, rfl⟩
      simp_all [or3]
theorem rof_any (b : Bool) (w : World) :
    Calls Try.prog 32 #[.bool b] w fun e w' => e = .returned (.int .i64 (if b then 2 else 1)) ∧ w = w' := by
  cases b
  all_goals
    go_enter Try.func32, Try.ntmps32
    go_wp2
    go_ret
    exact ⟨rfl, rfl⟩

theorem all3_snoc (l : List Int) (x : Int) : all3 (l ++ [x]) = and3 (all3 l) x := by
  unfold all3
  rw [foldT_snoc]
  rcases foldT_tr and3 2 l (.inr (.inl rfl)) and_tr with h | h | h <;> rw [h] <;> unfold and3 tr <;> (repeat' split) <;> omega
theorem any3_snoc (l : List Int) (x : Int) : any3 (l ++ [x]) = or3 (any3 l) x := by
  unfold any3
  rw [foldT_snoc]
  rcases foldT_tr or3 1 l (.inl rfl) or_tr with h | h | h <;> rw [h] <;> unfold or3 tr <;> (repeat' split) <;> omega

theorem foldT_app (g : Int → Int → Int) (f : Int) (l m : List Int) : foldT g f (l ++ m) = foldT g (foldT g f l) m := by simp [foldT]
theorem and_all (a : Int) (ha : Tr a) (m : List Int) : foldT and3 a m = and3 a (all3 m) := by
  have key : ∀ r : List Int, foldT and3 a r.reverse = and3 a (all3 r.reverse) := by
    intro r
    induction r with
    | nil => rcases ha with rfl | rfl | rfl <;> rfl
    | cons x r ih =>
      rw [List.reverse_cons, foldT_snoc, ih]
      unfold all3
      rw [foldT_snoc]
      exact (laws3 a _ (tr x) ha (foldT_tr and3 2 r.reverse (.inr (.inl rfl)) and_tr) (tr_tr x)).2.2.1
  have := key m.reverse
  simpa using this
theorem or_any3 (a : Int) (ha : Tr a) (m : List Int) : foldT or3 a m = or3 a (any3 m) := by
  have key : ∀ r : List Int, foldT or3 a r.reverse = or3 a (any3 r.reverse) := by
    intro r
    induction r with
    | nil => rcases ha with rfl | rfl | rfl <;> rfl
    | cons x r ih =>
      rw [List.reverse_cons, foldT_snoc, ih]
      unfold any3
      rw [foldT_snoc]
      exact (laws3 a _ (tr x) ha (foldT_tr or3 1 r.reverse (.inl rfl) or_tr) (tr_tr x)).2.2.2.1
  have := key m.reverse
  simpa using this
theorem all3_tr (l : List Int) : Tr (all3 l) := foldT_tr and3 2 l (.inr (.inl rfl)) and_tr
theorem any3_tr (l : List Int) : Tr (any3 l) := foldT_tr or3 1 l (.inl rfl) or_tr
theorem all3_app (l m : List Int) : all3 (l ++ m) = and3 (all3 l) (all3 m) := by
  show foldT and3 2 (l ++ m) = _
  rw [foldT_app]
  exact and_all _ (all3_tr l) m
theorem any3_app (l m : List Int) : any3 (l ++ m) = or3 (any3 l) (any3 m) := by
  show foldT or3 1 (l ++ m) = _
  rw [foldT_app]
  exact or_any3 _ (any3_tr l) m
end Go.Proofs.Ytkipocfdgekkfaa
