/- Layer 5: one device more, and devices the other way round: mathematics. -/
import Derived.Test.YtconekaplneejaaConfN
namespace Go.Proofs.Ytconekaplneejaa
open Go.ChangeShapes Go.WideShapes Go.ChangeAt Go.RowKit
set_option linter.unusedVariables false
set_option linter.unusedSimpArgs false

theorem came_app0 (rows : List (List Int)) (k j : Nat) : came rows k j = came rows k 0 ++ (List.range j).map fun h => (k, h) := by simp [came]
theorem lenAt_app (rows : List (List Int)) (more : List Int) (k : Nat) (h : k < rows.length) : lenAt (rows ++ [more]) k = lenAt rows k := by
  unfold lenAt; rw [List.getElem?_append_left h]
theorem lenAt_last (rows : List (List Int)) (more : List Int) : lenAt (rows ++ [more]) rows.length = more.length := by
  unfold lenAt; rw [List.getElem?_append_right (Nat.le_refl _), Nat.sub_self]; rfl
theorem came_app (rows : List (List Int)) (more : List Int) : ∀ k, k ≤ rows.length → ∀ j, came (rows ++ [more]) k j = came rows k j := by
  intro k
  induction k with
  | zero => intro _ j; simp [came]
  | succ k ih =>
    intro hk j
    rw [came_app0, came_next, ih (by omega), lenAt_app _ _ _ (by omega), came_app0 rows (k + 1), came_next]
theorem chans_app (rows : List (List Int)) (more : List Int) : chansOf (rows ++ [more]) = chansOf rows ++ (List.range more.length).map fun h => (rows.length, h) := by
  unfold chansOf
  rw [List.length_append, List.length_cons, List.length_nil, came_next, lenAt_last, came_app _ _ _ (Nat.le_refl _), came_app0]
theorem chans_app_len (rows : List (List Int)) (more : List Int) : (chansOf (rows ++ [more])).length = (chansOf rows).length + more.length := by
  rw [chans_app, List.length_append, List.length_map, List.length_range]
theorem ofX_app {L M : List (Nat × Nat)} {n : Int} (h : ofO L n = true) : ofX (L ++ M) n = ofX L n := by
  have h' := of_decide_eq_true h
  have h2 : ofO (L ++ M) n = true := decide_eq_true (by rw [List.length_append]; omega)
  unfold ofX
  rw [if_pos h, if_pos h2, List.getElem?_append_left (by omega)]
theorem numI_last (rows : List (List Int)) (more : List Int) (h : 0 < more.length) : numI (chansOf (rows ++ [more])) (rows.length : Int) 0 = ((chansOf rows).length : Int) := by
  have := numI_in (rows ++ [more]) rows.length 0 (by simp) (by rw [lenAt_last]; exact h)
  rw [came_app _ _ _ (Nat.le_refl _)] at this
  exact this
theorem numI_none_last (rows : List (List Int)) (more : List Int) (h : more.length = 0) : numI (chansOf (rows ++ [more])) (rows.length : Int) 0 = -1 := by
  refine numI_out _ _ _ ?_
  rintro ⟨a, b, ha, hb, _, hlt⟩
  have : a = rows.length := by omega
  subst this
  rw [lenAt_last] at hlt
  omega
theorem chans_len_sum (rows : List (List Int)) : (chansOf rows).length = (rows.map List.length).sum := by
  have key : ∀ l : List (List Int), (chansOf l.reverse).length = (l.map List.length).sum := by
    intro l
    induction l with
    | nil => rfl
    | cons a l ih => rw [List.reverse_cons, chans_app_len, ih, List.map_cons, List.sum_cons, Nat.add_comm]
  have h2 : ∀ l m : List Nat, (l ++ m).sum = l.sum + m.sum := by
    intro l m
    induction l with
    | nil => simp
    | cons a l ih => simp only [List.cons_append, List.sum_cons, ih]; omega
  have h3 : ∀ l : List Nat, l.reverse.sum = l.sum := by
    intro l
    induction l with
    | nil => rfl
    | cons a l ih => rw [List.reverse_cons, h2, ih]; simp only [List.sum_cons, List.sum_nil]; omega
  have := key rows.reverse
  rw [List.reverse_reverse, List.map_reverse, h3] at this
  exact this
theorem chans_len_rev (rows : List (List Int)) : (chansOf rows.reverse).length = (chansOf rows).length := by
  rw [chans_len_sum rows]
  have key : ∀ l : List (List Int), (chansOf l.reverse).length = (l.map List.length).sum := by
    intro l
    induction l with
    | nil => rfl
    | cons a l ih => rw [List.reverse_cons, chans_app_len, ih, List.map_cons, List.sum_cons, Nat.add_comm]
  exact key rows
theorem all_rev (rows : List (List Int)) (p : List Int → Bool) : rows.reverse.all p = rows.all p := by
  rw [Bool.eq_iff_iff, List.all_eq_true, List.all_eq_true]
  simp
theorem confO_rev (P H C Mn Mx Rho Bd Win St : Int) (rows : List (List Int)) : confO ⟨P, H, C, Mn, Mx, Rho, Bd, Win, St, rows.reverse⟩ = confO ⟨P, H, C, Mn, Mx, Rho, Bd, Win, St, rows⟩ := by
  unfold confO
  simp only [List.length_reverse, all_rev]
end Go.Proofs.Ytconekaplneejaa
