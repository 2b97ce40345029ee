/- Layer 5: each number is that of just its channel. -/
import Derived.Test.YtcdmojimdiiepaaConfI
namespace Go.Proofs.Ytcdmojimdiiepaa
open Go.ChangeShapes Go.WideShapes Go.ChangeAt Go.RowKit
set_option linter.unusedVariables false
set_option linter.unusedSimpArgs false

theorem came_nodup (rows : List (List Int)) : ∀ k j, (came rows k j).Nodup ∧ ∀ x ∈ came rows k j, x.1 < k ∨ (x.1 = k ∧ x.2 < j) := by
  have step : ∀ k, ((came rows k 0).Nodup ∧ ∀ x ∈ came rows k 0, x.1 < k ∨ (x.1 = k ∧ x.2 < 0)) → ∀ j, (came rows k j).Nodup ∧ ∀ x ∈ came rows k j, x.1 < k ∨ (x.1 = k ∧ x.2 < j) := by
    intro k h j
    induction j with
    | zero => exact h
    | succ j ih =>
      rw [came_step]
      refine ⟨List.nodup_append.2 ⟨ih.1, by simp, ?_⟩, ?_⟩
      · intro a ha b hb e
        simp at hb
        subst hb
        subst e
        have := ih.2 _ ha
        simp only at this
        omega
      · intro x hx
        rcases List.mem_append.1 hx with h1 | h1
        · have := ih.2 x h1; omega
        · simp at h1; subst h1; simp
  intro k
  induction k with
  | zero => exact step 0 ⟨by simp [came_zero], by simp [came_zero]⟩
  | succ k ih =>
    refine step (k + 1) ?_
    rw [came_next]
    refine ⟨(ih _).1, fun x hx => ?_⟩
    have := (ih _).2 x hx
    omega
theorem chans_nodup (rows : List (List Int)) : (chansOf rows).Nodup := (came_nodup rows _ _).1
theorem isCh_iff (d h : Int) (x : Nat × Nat) : isCh d h x = true ↔ (x.1 : Int) = d ∧ (x.2 : Int) = h := by simp [isCh]
theorem isCh_self (x y : Nat × Nat) (h : isCh (x.1 : Int) (x.2 : Int) y = true) : y = x := by
  have := (isCh_iff _ _ _).1 h
  exact Prod.ext (by omega) (by omega)
/-- the number of the channel that stands at i is i -/
theorem numI_at {L : List (Nat × Nat)} (hL : L.Nodup) {i : Nat} {x : Nat × Nat} (hx : L[i]? = some x) : numI L (x.1 : Int) (x.2 : Int) = (i : Int) := by
  have hi : i < L.length := (List.getElem?_eq_some_iff.1 hx).1
  have e : L = (L.take i ++ [x]) ++ L.drop (i + 1) := by
    conv => lhs; rw [← List.take_append_drop (i + 1) L]
    rw [List.take_add_one, hx]
    rfl
  have h := numI_some (L := L) (pre := L.take i) (x := x) (d := (x.1 : Int)) (h := (x.2 : Int)) ⟨_, e.symm⟩ (fun y hy => by
    rw [Bool.eq_false_iff]
    intro hc
    have hyx := isCh_self x y hc
    subst hyx
    rw [e] at hL
    have h1 := (List.nodup_append.1 hL).1
    exact (List.nodup_append.1 h1).2.2 _ hy _ (by simp) rfl) ((isCh_iff _ _ _).2 ⟨rfl, rfl⟩)
  rw [h, List.length_take, Nat.min_eq_left (Nat.le_of_lt hi)]
/-- what a number of a channel is -/
theorem numI_cases (L : List (Nat × Nat)) (d h : Int) : numI L d h = -1 ∨ ∃ (i : Nat) (x : Nat × Nat), numI L d h = (i : Int) ∧ L[i]? = some x ∧ (x.1 : Int) = d ∧ (x.2 : Int) = h := by
  unfold numI
  cases hf : L.findIdx? (isCh d h) with
  | none => exact .inl rfl
  | some i =>
    obtain ⟨hi, hp, _⟩ := List.findIdx?_eq_some_iff_getElem.1 hf
    exact .inr ⟨i, L[i], rfl, List.getElem?_eq_getElem hi, (isCh_iff _ _ _).1 hp⟩
theorem of_at {L : List (Nat × Nat)} {i : Nat} {x : Nat × Nat} (hx : L[i]? = some x) : ofO L (i : Int) = true ∧ ofX L (i : Int) = x := by
  have hi : i < L.length := (List.getElem?_eq_some_iff.1 hx).1
  have h1 : ofO L (i : Int) = true := decide_eq_true ⟨by omega, by omega⟩
  refine ⟨h1, ?_⟩
  unfold ofX
  rw [if_pos h1, Int.toNat_natCast, hx]
  rfl
theorem great_len {rows : List (List Int)} (h : greatB rows = false) : (chansOf rows).length ≤ 2500 := by
  unfold greatB at h
  rw [Bool.or_eq_false_iff] at h
  have h1 : rows.length ≤ 50 := by have := of_decide_eq_false h.1; omega
  have h2 : ∀ d, lenAt rows d ≤ 50 := by
    intro d
    unfold lenAt
    cases hr : rows[d]? with
    | none => simp
    | some r =>
      have := List.any_eq_false.1 h.2 r (List.mem_of_getElem? hr)
      simp at this
      simpa using this
  have key : ∀ k, (came rows k 0).length ≤ 50 * k := by
    intro k
    induction k with
    | zero => simp [came_zero]
    | succ k ih =>
      rw [came_next]
      have : ∀ j, (came rows k j).length = (came rows k 0).length + j := by
        intro j
        induction j with
        | zero => rfl
        | succ j ihj => rw [came_step, List.length_append, ihj]; simp; omega
      rw [this]
      have := h2 k
      omega
  have := key rows.length
  unfold chansOf
  omega

end Go.Proofs.Ytcdmojimdiiepaa
