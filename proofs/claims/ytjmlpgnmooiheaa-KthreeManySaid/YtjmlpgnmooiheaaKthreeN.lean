/- Layer 17: the document's answers, and the laws of rows, walked. -/
import Derived.Test.YtjmlpgnmooiheaaKthreeL
import Derived.Laws.AppendOwn
namespace Go.Proofs.Ytjmlpgnmooiheaa
open Go.ChangeShapes Go.WideShapes Go.ChangeAt Go.RowKit
set_option linter.unusedVariables false
set_option linter.unusedSimpArgs false

theorem el64 : Elem Try.prog 22 3 1 8 := Elem.mk' (z := .int .i64 0) Try.underlying22 (by kernel_rfl) rfl (by omega)

theorem tr_and (a b : Int) : and3 (tr a) (tr b) = and3 a b := by unfold and3 tr; (repeat' split) <;> omega
theorem tr_or (a b : Int) : or3 (tr a) (tr b) = or3 a b := by unfold or3 tr; (repeat' split) <;> omega
theorem tr_not (a : Int) : not3 (tr a) = not3 a := by unfold not3 tr; (repeat' split) <;> omega

theorem rnot_any (a : Int) (w : World) :
    Calls Try.prog 11 #[.int .i64 a] w fun e w' => e = .returned (.int .i64 (not3 a)) ∧ w = w' := by
  go_enter Try.func11, Try.ntmps11
  go_wp2
  all_goals
    go_ret
    refine ⟨ret_int ?_, rfl⟩
    simp_all [not3]
theorem rand_any (a b : Int) (w : World) :
    Calls Try.prog 13 #[.int .i64 a, .int .i64 b] w fun e w' => e = .returned (.int .i64 (and3 a b)) ∧ w = w' := by
  by_cases h1 : a = 1 <;> by_cases h2 : b = 1 <;> by_cases h3 : a = 2 <;> by_cases h4 : b = 2
  all_goals first | omega | skip
  all_goals
    first | subst h1 | skip
    first | subst h2 | skip
    first | subst h3 | skip
    first | subst h4 | skip
    go_enter Try.func13, Try.ntmps13
    go_wp2
    all_goals
      go_ret
      refine ⟨ret_int ?_, rfl⟩
      simp_all [and3]
theorem ror_any (a b : Int) (w : World) :
    Calls Try.prog 15 #[.int .i64 a, .int .i64 b] w fun e w' => e = .returned (.int .i64 (or3 a b)) ∧ w = w' := by
  by_cases h1 : a = 1 <;> by_cases h2 : b = 1 <;> by_cases h3 : a = 2 <;> by_cases h4 : b = 2
  all_goals first | omega | skip
  all_goals
    first | subst h1 | skip
    first | subst h2 | skip
    first | subst h3 | skip
    first | subst h4 | skip
    go_enter Try.func15, Try.ntmps15
    go_wp2
    all_goals
      go_ret
      refine ⟨ret_int ?_, rfl⟩
      simp_all [or3]
theorem rof_any (b : Bool) (w : World) :
    Calls Try.prog 17 #[.bool b] w fun e w' => e = .returned (.int .i64 (if b then 2 else 1)) ∧ w = w' := by
  cases b
  all_goals
    go_enter Try.func17, Try.ntmps17
    go_wp2
    go_ret
    exact ⟨rfl, rfl⟩

theorem all3_snoc (l : List Int) (x : Int) : all3 (l ++ [x]) = and3 (all3 l) x := by
  unfold all3
  rw [foldT_snoc]
  rcases foldT_tr and3 2 l (.inr (.inl rfl)) and_tr with h | h | h <;> rw [h] <;> unfold and3 tr <;> (repeat' split) <;> omega
theorem any3_snoc (l : List Int) (x : Int) : any3 (l ++ [x]) = or3 (any3 l) x := by
  unfold any3
  rw [foldT_snoc]
  rcases foldT_tr or3 1 l (.inl rfl) or_tr with h | h | h <;> rw [h] <;> unfold or3 tr <;> (repeat' split) <;> omega

set_option maxHeartbeats 1000000 in
theorem rall_any (v : Value) (l : List Int) (w : World) (hl : Row w v (l.map (.int .i64))) :
    Calls Try.prog 19 #[v] w fun e w' => e = .returned (.int .i64 (all3 l)) ∧ w = w' := by
  obtain ⟨A, c, rfl, hc, hm, hA⟩ := hl
  rw [List.length_map] at hc hA ⊢
  unfold maxLen at hm
  have hcell : ∀ k x, l[k]? = some x → ∃ ad, A = some ad ∧ w.cell? (ad.add k) = some (.int .i64 x) := by
    intro k x hx
    have hk : k < l.length := by
      rcases Nat.lt_or_ge k l.length with h | h
      · exact h
      · rw [List.getElem?_eq_none h] at hx; cases hx
    rcases hA with ⟨_, h0⟩ | ⟨ad, h1, h2, h3⟩
    · omega
    · exact ⟨ad, h1, h3 k _ (by rw [List.getElem?_map, hx]; rfl)⟩
  have HC := Lib.hid hcell
  clear hcell hA
  go_enter Try.func19, Try.ntmps19
  go_wp2
  go_loop [3, 4] (fun t i => ∃ k : Nat, k ≤ l.length ∧ i = .int .i64 k ∧ t = .int .i64 (all3 (l.take k))) (fun _ i => l.length - (intOf i).toNat)
  case atStart => exact ⟨0, Nat.zero_le _, rfl, rfl⟩
  case round =>
    obtain ⟨k, hk, rfl, rfl⟩ := hrel
    by_cases hlt : k < l.length
    · obtain ⟨x, hx⟩ : ∃ x, l[k]? = some x := ⟨_, List.getElem?_eq_getElem hlt⟩
      obtain ⟨ad, rfl, hcx⟩ := HC.out k x hx
      have HE := Lib.hid (show all3 (l.take (k + 1)) = and3 (all3 (l.take k)) x by rw [List.take_add_one, hx]; exact all3_snoc _ _)
      clear hx
      generalize all3 (l.take k) = T at *
      go_wp2_with (go_at_call 13; refine (rand_any _ _ _).mono ?_; rintro e w2 ⟨rfl, rfl⟩)
      go_round
      case rel => exact ⟨k + 1, by omega, by go_num, by rw [HE.out]⟩
      case measure => simp [intOf]; omega
    · go_wp2
      go_ret
      have : k = l.length := by omega
      subst this
      exact ⟨by rw [List.take_length]; rfl, rfl⟩

set_option maxHeartbeats 1000000 in
theorem rany_any (v : Value) (l : List Int) (w : World) (hl : Row w v (l.map (.int .i64))) :
    Calls Try.prog 21 #[v] w fun e w' => e = .returned (.int .i64 (any3 l)) ∧ w = w' := by
  obtain ⟨A, c, rfl, hc, hm, hA⟩ := hl
  rw [List.length_map] at hc hA ⊢
  unfold maxLen at hm
  have hcell : ∀ k x, l[k]? = some x → ∃ ad, A = some ad ∧ w.cell? (ad.add k) = some (.int .i64 x) := by
    intro k x hx
    have hk : k < l.length := by
      rcases Nat.lt_or_ge k l.length with h | h
      · exact h
      · rw [List.getElem?_eq_none h] at hx; cases hx
    rcases hA with ⟨_, h0⟩ | ⟨ad, h1, h2, h3⟩
    · omega
    · exact ⟨ad, h1, h3 k _ (by rw [List.getElem?_map, hx]; rfl)⟩
  have HC := Lib.hid hcell
  clear hcell hA
  go_enter Try.func21, Try.ntmps21
  go_wp2
  go_loop [3, 4] (fun t i => ∃ k : Nat, k ≤ l.length ∧ i = .int .i64 k ∧ t = .int .i64 (any3 (l.take k))) (fun _ i => l.length - (intOf i).toNat)
  case atStart => exact ⟨0, Nat.zero_le _, rfl, rfl⟩
  case round =>
    obtain ⟨k, hk, rfl, rfl⟩ := hrel
    by_cases hlt : k < l.length
    · obtain ⟨x, hx⟩ : ∃ x, l[k]? = some x := ⟨_, List.getElem?_eq_getElem hlt⟩
      obtain ⟨ad, rfl, hcx⟩ := HC.out k x hx
      have HE := Lib.hid (show any3 (l.take (k + 1)) = or3 (any3 (l.take k)) x by rw [List.take_add_one, hx]; exact any3_snoc _ _)
      clear hx
      generalize any3 (l.take k) = T at *
      go_wp2_with (go_at_call 15; refine (ror_any _ _ _).mono ?_; rintro e w2 ⟨rfl, rfl⟩)
      go_round
      case rel => exact ⟨k + 1, by omega, by go_num, by rw [HE.out]⟩
      case measure => simp [intOf]; omega
    · go_wp2
      go_ret
      have : k = l.length := by omega
      subst this
      exact ⟨by rw [List.take_length]; rfl, rfl⟩

set_option maxHeartbeats 2000000 in
theorem walk_KthreeTells (a b : Int) (v : Value) (l : List Int) (s : Bool) (w : World) (w0 : (Lit.int .i64 a).wf = true) (w1 : (Lit.int .i64 b).wf = true) (hl : Ints .i64 w v l) :
    Calls Try.prog 3 #[.int .i64 a, .int .i64 b, v, .bool s] w fun e w' => e = .returned (.bool true) ∧ Below w.heap.size w w' := by
  clear w0 w1
  have hL := hl.1
  clear hl
  have hL0 := hL
  obtain ⟨A, c, rfl, hc, hm, hA⟩ := hL0
  rw [List.length_map] at hc hA hL ⊢
  clear hA
  unfold maxLen at hm
  by_cases hbig : 500 < l.length
  · clear hL
    go_enter Try.func3, Try.ntmps3
    go_wp2_with fail
    refine (head_any _).mono ?_
    rintro e w1 ⟨rfl, hb1⟩
    go_wp2
    go_ret
    exact ⟨rfl, hb1⟩
  cases s
  all_goals
    have e1 := tr_and a b
    have e2 := tr_or a b
    have e3 := tr_not a
    go_enter Try.func3, Try.ntmps3
    go_wp2_with fail
    refine (head_any _).mono ?_
    rintro e w1 ⟨rfl, hb1⟩
    have H1 := Lib.hid (hL.below hb1)
    clear hL
    go_wp2_with fail
    refine (not_any _ _).mono ?_
    rintro e w2 ⟨rfl, hb2⟩
    go_wp2_with fail
    refine (rnot_any _ _).mono ?_
    rintro e w3 ⟨rfl, rfl⟩
    go_wp2_with fail
    refine (and_any _ _ _).mono ?_
    rintro e w3 ⟨rfl, hb3⟩
    go_wp2_with fail
    refine (rand_any _ _ _).mono ?_
    rintro e w4 ⟨rfl, rfl⟩
    go_wp2_with fail
    refine (or_any _ _ _).mono ?_
    rintro e w4 ⟨rfl, hb4⟩
    go_wp2_with fail
    refine (ror_any _ _ _).mono ?_
    rintro e w5 ⟨rfl, rfl⟩
    go_wp2_with fail
    refine (of_bool _ _).mono ?_
    rintro e w5 ⟨rfl, rfl⟩
    go_wp2_with fail
    refine (rof_any _ _).mono ?_
    rintro e w5 ⟨rfl, rfl⟩
    have hb14 := Btrans hb2 (Btrans hb3 hb4)
    go_wp2_with fail
    refine (all_any _ l _ (H1.out.below hb14)).mono ?_
    rintro e w5 ⟨rfl, hb5⟩
    go_wp2_with fail
    refine (rall_any _ l _ (H1.out.below (Btrans hb14 hb5))).mono ?_
    rintro e w6 ⟨rfl, rfl⟩
    go_wp2_with fail
    refine (any_any _ l _ (H1.out.below (Btrans hb14 hb5))).mono ?_
    rintro e w6 ⟨rfl, hb6⟩
    go_wp2_with fail
    refine (rany_any _ l _ (H1.out.below (Btrans hb14 (Btrans hb5 hb6)))).mono ?_
    rintro e w7 ⟨rfl, rfl⟩
    go_wp2
    go_ret
    exact ⟨by simp, Btrans hb1 (Btrans hb14 (Btrans hb5 hb6))⟩

/-! ### parts -/
theorem foldT_app (g : Int → Int → Int) (f : Int) (l m : List Int) : foldT g f (l ++ m) = foldT g (foldT g f l) m := by simp [foldT]
theorem and_all (a : Int) (ha : Tr a) (m : List Int) : foldT and3 a m = and3 a (all3 m) := by
  have key : ∀ r : List Int, foldT and3 a r.reverse = and3 a (all3 r.reverse) := by
    intro r
    induction r with
    | nil => rcases ha with rfl | rfl | rfl <;> rfl
    | cons x r ih =>
      rw [List.reverse_cons, foldT_snoc, ih]
      unfold all3
      rw [foldT_snoc]
      exact (laws3 a _ (tr x) ha (foldT_tr and3 2 r.reverse (.inr (.inl rfl)) and_tr) (tr_tr x)).2.2.1
  have := key m.reverse
  simpa using this
theorem or_any3 (a : Int) (ha : Tr a) (m : List Int) : foldT or3 a m = or3 a (any3 m) := by
  have key : ∀ r : List Int, foldT or3 a r.reverse = or3 a (any3 r.reverse) := by
    intro r
    induction r with
    | nil => rcases ha with rfl | rfl | rfl <;> rfl
    | cons x r ih =>
      rw [List.reverse_cons, foldT_snoc, ih]
      unfold any3
      rw [foldT_snoc]
      exact (laws3 a _ (tr x) ha (foldT_tr or3 1 r.reverse (.inl rfl) or_tr) (tr_tr x)).2.2.2.1
  have := key m.reverse
  simpa using this
theorem all3_tr (l : List Int) : Tr (all3 l) := foldT_tr and3 2 l (.inr (.inl rfl)) and_tr
theorem any3_tr (l : List Int) : Tr (any3 l) := foldT_tr or3 1 l (.inl rfl) or_tr
theorem all3_app (l m : List Int) : all3 (l ++ m) = and3 (all3 l) (all3 m) := by
  show foldT and3 2 (l ++ m) = _
  rw [foldT_app]
  exact and_all _ (all3_tr l) m
theorem any3_app (l m : List Int) : any3 (l ++ m) = or3 (any3 l) (any3 m) := by
  show foldT or3 1 (l ++ m) = _
  rw [foldT_app]
  exact or_any3 _ (any3_tr l) m
end Go.Proofs.Ytjmlpgnmooiheaa
