/- Layer 5: each number is that of just its channel. -/
import Derived.Test.YtconekaplneejaaConfI
namespace Go.Proofs.Ytconekaplneejaa
open Go.ChangeShapes Go.WideShapes Go.ChangeAt Go.RowKit
set_option linter.unusedVariables false
set_option linter.unusedSimpArgs false

theorem came_nodup (rows : List (List Int)) : ∀ k j, (came rows k j).Nodup ∧ ∀ x ∈ came rows k j, x.1 < k ∨ (x.1 = k ∧ x.2 < j) := by
  have step : ∀ k, ((came rows k 0).Nodup ∧ ∀ x ∈ came rows k 0, x.1 < k ∨ (x.1 = k ∧ x.2 < 0)) → ∀ j, (came rows k j).Nodup ∧ ∀ x ∈ came rows k j, x.1 < k ∨ (x.1 = k ∧ x.2 < j) := by
    intro k h j
    induction j with
    | zero => exact h
    | succ j ih =>
      rw [came_step]
      refine ⟨List.nodup_append.2 ⟨ih.1, by simp, ?_⟩, ?_⟩
      · intro a ha b hb e
        simp at hb
        subst hb
        subst e
        have := ih.2 _ ha
        simp only at this
        omega
      · intro x hx
        rcases List.mem_append.1 hx with h1 | h1
        · have := ih.2 x h1; omega
        · simp at h1; subst h1; simp
  intro k
  induction k with
  | zero => exact step 0 ⟨by simp [came_zero], by simp [came_zero]⟩
  | succ k ih =>
    refine step (k + 1) ?_
    rw [came_next]
    refine ⟨(ih _).1, fun x hx => ?_⟩
    have := (ih _).2 x hx
    omega
theorem chans_nodup (rows : List (List Int)) : (chansOf rows).Nodup := (came_nodup rows _ _).1
theorem isCh_iff (d h : Int) (x : Nat × Nat) : isCh d h x = true ↔ (x.1 : Int) = d ∧ (x.2 : Int) = h := by simp [isCh]
theorem isCh_self (x y : Nat × Nat) (h : isCh (x.1 : Int) (x.2 : Int) y = true) : y = x := by
  have := (isCh_iff _ _ _).1 h
  exact Prod.ext (by omega) (by omega)
/-- the number of the channel that stands at i is i -/
theorem numI_at {L : List (Nat × Nat)} (hL : L.Nodup) {i : Nat} {x : Nat × Nat} (hx : L[i]? = some x) : numI L (x.1 : Int) (x.2 : Int) = (i : Int) := by
  have hi : i < L.length := (List.getElem?_eq_some_iff.1 hx).1
  have e : L = (L.take i ++ [x]) ++ L.drop (i + 1) := by
    conv => lhs; rw [← List.take_append_drop (i + 1) L]
    rw [List.take_add_one, hx]
    rfl
  have h := numI_some (L := L) (pre := L.take i) (x := x) (d := (x.1 : Int)) (h := (x.2 : Int)) ⟨_, e.symm⟩ (fun y hy => by
    rw [Bool.eq_false_iff]
    intro hc
    have hyx := isCh_self x y hc
    subst hyx
    rw [e] at hL
    have h1 := (List.nodup_append.1 hL).1
    exact (List.nodup_append.1 h1).2.2 _ hy _ (by simp) rfl) ((isCh_iff _ _ _).2 ⟨rfl, rfl⟩)
  rw [h, List.length_take, Nat.min_eq_left (Nat.le_of_lt hi)]
/-- what a number of a channel is -/
theorem numI_cases (L : List (Nat × Nat)) (d h : Int) : numI L d h = -1 ∨ ∃ (i : Nat) (x : Nat × Nat), numI L d h = (i : Int) ∧ L[i]? = some x ∧ (x.1 : Int) = d ∧ (x.2 : Int) = h := by
  unfold numI
  cases hf : L.findIdx? (isCh d h) with
  | none => exact .inl rfl
  | some i =>
    obtain ⟨hi, hp, _⟩ := List.findIdx?_eq_some_iff_getElem.1 hf
    exact .inr ⟨i, L[i], rfl, List.getElem?_eq_getElem hi, (isCh_iff _ _ _).1 hp⟩
theorem of_at {L : List (Nat × Nat)} {i : Nat} {x : Nat × Nat} (hx : L[i]? = some x) : ofO L (i : Int) = true ∧ ofX L (i : Int) = x := by
  have hi : i < L.length := (List.getElem?_eq_some_iff.1 hx).1
  have h1 : ofO L (i : Int) = true := decide_eq_true ⟨by omega, by omega⟩
  refine ⟨h1, ?_⟩
  unfold ofX
  rw [if_pos h1, Int.toNat_natCast, hx]
  rfl
theorem great_len {rows : List (List Int)} (h : greatB rows = false) : (chansOf rows).length ≤ 2500 := by
  unfold greatB at h
  rw [Bool.or_eq_false_iff] at h
  have h1 : rows.length ≤ 50 := by have := of_decide_eq_false h.1; omega
  have h2 : ∀ d, lenAt rows d ≤ 50 := by
    intro d
    unfold lenAt
    cases hr : rows[d]? with
    | none => simp
    | some r =>
      have := List.any_eq_false.1 h.2 r (List.mem_of_getElem? hr)
      simp at this
      simpa using this
  have key : ∀ k, (came rows k 0).length ≤ 50 * k := by
    intro k
    induction k with
    | zero => simp [came_zero]
    | succ k ih =>
      rw [came_next]
      have : ∀ j, (came rows k j).length = (came rows k 0).length + j := by
        intro j
        induction j with
        | zero => rfl
        | succ j ihj => rw [came_step, List.length_append, ihj]; simp; omega
      rw [this]
      have := h2 k
      omega
  have := key rows.length
  unfold chansOf
  omega

set_option maxRecDepth 100000 in
set_option maxHeartbeats 4000000 in
theorem walk_ConfNumbers (v : Value) (c : Cf) (num dev ch : Int) (w : World) (hc : IsConf w v c) (wc : (Lit.int .i64 c.P).wf = true ∧ (Lit.int .i64 c.H).wf = true ∧ (Lit.int .i64 c.C).wf = true ∧ (Lit.int .i64 c.Mn).wf = true ∧ (Lit.int .i64 c.Mx).wf = true ∧ (Lit.int .i64 c.Rho).wf = true ∧ (Lit.int .i64 c.Bd).wf = true ∧ (Lit.int .i64 c.Win).wf = true ∧ (Lit.int .i64 c.St).wf = true) (wr : ∀ r ∈ c.rows, ∀ z ∈ r, (Lit.int .i64 z).wf = true) (w1 : (Lit.int .i64 num).wf = true) (w2 : (Lit.int .i64 dev).wf = true) (w3 : (Lit.int .i64 ch).wf = true) :
    Calls Try.prog 4 #[v, .int .i64 num, .int .i64 dev, .int .i64 ch] w fun e w' => e = .returned (.bool true) ∧ Below w.heap.size w w' := by
  obtain ⟨s, r, rfl, hs⟩ := hc
  have HS0 := Lib.hid hs
  obtain ⟨A, cp, rfl, _, _, q⟩ := hs.src
  clear hs q wc wr w1 w2 w3
  go_enter Try.func4, Try.ntmps4
  go_wp2_with fail
  refine (head_any _).mono ?_
  rintro e w1 ⟨rfl, hk⟩
  have hb1 : Below w.heap.size w w1 := (show Below w.heap.size w _ by go_grown).trans (hk.mono (by simp))
  have HB1 := Lib.hid ((Blk.new w 25 #[.int .i64 c.P, .int .i64 c.H, .int .i64 c.C, .int .i64 c.Mn, .int .i64 c.Mx, .int .i64 c.Rho, .int .i64 c.Bd, .int .i64 c.Win, .int .i64 c.St, .slice A c.rows.length cp, r] _ rfl).below hk)
  have HS1 := Lib.hid (HS0.out.below hb1)
  have hx := HB1.out.cells
  clear hk HS0
  go_wp2_with fail
  refine (great_any _ c _ ⟨_, _, rfl, HS1.out⟩).mono ?_
  rintro e w2 ⟨rfl, hk⟩
  clear hx
  have hb2 := Btrans hb1 hk
  have HB2 := Lib.hid (HB1.out.below hk)
  have HS2 := Lib.hid (HS1.out.below hk)
  have hx := HB2.out.cells
  clear hk HB1 HS1 hb1
  cases hg : greatB c.rows with
  | true =>
    clear hx
    go_wp2
    go_ret
    exact ⟨rfl, hb2⟩
  | false =>
    have HN : Hid ((chansOf c.rows).length ≤ 1000000) := Lib.hid (Nat.le_trans (great_len hg) (by decide))
    have HND := Lib.hid (chans_nodup c.rows)
    clear hg
    go_wp2_with fail
    refine (of_any _ c num _ ⟨_, _, rfl, HS2.out⟩ HN.out).mono ?_
    rintro e w3 ⟨rfl, hk⟩
    clear hx
    have hb3 := Btrans hb2 hk
    have HB3 := Lib.hid (HB2.out.below hk)
    have HS3 := Lib.hid (HS2.out.below hk)
    have hx := HB3.out.cells
    clear hk HB2 HS2 hb2
    by_cases h0 : num ≥ 0
    rotate_left
    · have g0 : decide (num ≥ 0) = false := decide_eq_false h0
      have hof : ofO (chansOf c.rows) num = false := decide_eq_false (by omega)
      rw [hof]
      clear hof h0
      go_wp2_with fail
      refine (number_any _ c dev ch _ ⟨_, _, rfl, HS3.out⟩ HN.out).mono ?_
      rintro e w4 ⟨rfl, hk⟩
      clear hx
      have hb4 := Btrans hb3 hk
      have HB4 := Lib.hid (HB3.out.below hk)
      have HS4 := Lib.hid (HS3.out.below hk)
      have hx := HB4.out.cells
      clear hk HB3 HS3 hb3
      rcases numI_cases (chansOf c.rows) dev ch with hn | ⟨j, y, hn, hy, hy1, hy2⟩
      · rw [hn]
        have hof : ofO (chansOf c.rows) (-1) = false := decide_eq_false (by omega)
        have HOF := Lib.hid hof
        clear hn hof
        go_wp2_with fail
        refine (of_any _ c (-1) _ ⟨_, _, rfl, HS4.out⟩ HN.out).mono ?_
        rintro e w5 ⟨rfl, hk⟩
        rw [HOF.out]
        have hb5 := Btrans hb4 hk
        clear hk hx
        go_wp2
        go_ret
        exact ⟨by first | rfl | simp, hb5⟩
      · rw [hn]
        have hof := of_at hy
        have HOF := Lib.hid hof
        have g1 : ((j : Int) == -1) = false := beq_false_of_ne (by omega)
        have g2 : decide ((j : Int) ≥ 0) = true := decide_eq_true (by omega)
        have g3 : ((y.1 : Int) == dev) = true := beq_iff_eq.2 hy1
        have g4 : ((y.2 : Int) == ch) = true := beq_iff_eq.2 hy2
        clear hn hof hy hy1 hy2
        go_wp2_with fail
        refine (of_any _ c (j : Int) _ ⟨_, _, rfl, HS4.out⟩ HN.out).mono ?_
        rintro e w5 ⟨rfl, hk⟩
        rw [HOF.out.1, HOF.out.2]
        have hb5 := Btrans hb4 hk
        clear hk hx
        go_wp2
        go_ret
        exact ⟨by first | rfl | simp, hb5⟩
    have g0 : decide (num ≥ 0) = true := decide_eq_true h0
    go_wp2_with fail
    refine (many_any _ c _ ⟨_, _, rfl, HS3.out⟩ HN.out).mono ?_
    rintro e w4 ⟨rfl, hk⟩
    clear hx
    have hb4 := Btrans hb3 hk
    have HB4 := Lib.hid (HB3.out.below hk)
    have HS4 := Lib.hid (HS3.out.below hk)
    have hx := HB4.out.cells
    clear hk HB3 HS3 hb3
    by_cases h1 : num < ((chansOf c.rows).length : Int)
    rotate_left
    · have g1 : decide (num < ((chansOf c.rows).length : Int)) = false := decide_eq_false h1
      have hof : ofO (chansOf c.rows) num = false := decide_eq_false (by omega)
      rw [hof]
      clear hof h0 h1
      go_wp2_with fail
      refine (number_any _ c dev ch _ ⟨_, _, rfl, HS4.out⟩ HN.out).mono ?_
      rintro e w5 ⟨rfl, hk⟩
      clear hx
      have hb5 := Btrans hb4 hk
      have HB5 := Lib.hid (HB4.out.below hk)
      have HS5 := Lib.hid (HS4.out.below hk)
      have hx := HB5.out.cells
      clear hk HB4 HS4 hb4
      rcases numI_cases (chansOf c.rows) dev ch with hn | ⟨j, y, hn, hy, hy1, hy2⟩
      · rw [hn]
        have hof : ofO (chansOf c.rows) (-1) = false := decide_eq_false (by omega)
        have HOF := Lib.hid hof
        clear hn hof
        go_wp2_with fail
        refine (of_any _ c (-1) _ ⟨_, _, rfl, HS5.out⟩ HN.out).mono ?_
        rintro e w6 ⟨rfl, hk⟩
        rw [HOF.out]
        have hb6 := Btrans hb5 hk
        clear hk hx
        go_wp2
        go_ret
        exact ⟨by first | rfl | simp, hb6⟩
      · rw [hn]
        have hof := of_at hy
        have HOF := Lib.hid hof
        have g1 : ((j : Int) == -1) = false := beq_false_of_ne (by omega)
        have g2 : decide ((j : Int) ≥ 0) = true := decide_eq_true (by omega)
        have g3 : ((y.1 : Int) == dev) = true := beq_iff_eq.2 hy1
        have g4 : ((y.2 : Int) == ch) = true := beq_iff_eq.2 hy2
        clear hn hof hy hy1 hy2
        go_wp2_with fail
        refine (of_any _ c (j : Int) _ ⟨_, _, rfl, HS5.out⟩ HN.out).mono ?_
        rintro e w6 ⟨rfl, hk⟩
        rw [HOF.out.1, HOF.out.2]
        have hb6 := Btrans hb5 hk
        clear hk hx
        go_wp2
        go_ret
        exact ⟨by first | rfl | simp, hb6⟩
    obtain ⟨i, rfl⟩ := Int.eq_ofNat_of_zero_le h0
    have g1 : decide ((i : Int) < ((chansOf c.rows).length : Int)) = true := decide_eq_true h1
    obtain ⟨x, hxx⟩ : ∃ x, (chansOf c.rows)[i]? = some x := ⟨_, List.getElem?_eq_getElem (by omega)⟩
    have hof := of_at hxx
    have HNA := Lib.hid (numI_at HND.out hxx)
    rw [hof.1, hof.2]
    have h1n : i < (chansOf c.rows).length := by omega
    clear hof hxx h0 h1
    go_wp2_with fail
    refine (number_any _ c (x.1 : Int) (x.2 : Int) _ ⟨_, _, rfl, HS4.out⟩ HN.out).mono ?_
    rintro e w5 ⟨rfl, hk⟩
    rw [HNA.out]
    clear hx
    have hb5 := Btrans hb4 hk
    have HB5 := Lib.hid (HB4.out.below hk)
    have HS5 := Lib.hid (HS4.out.below hk)
    have hx := HB5.out.cells
    clear hk HB4 HS4 hb4
    go_wp2_with fail
    refine (number_any _ c dev ch _ ⟨_, _, rfl, HS5.out⟩ HN.out).mono ?_
    rintro e w6 ⟨rfl, hk⟩
    clear hx
    have hb6 := Btrans hb5 hk
    have HB6 := Lib.hid (HB5.out.below hk)
    have HS6 := Lib.hid (HS5.out.below hk)
    have hx := HB6.out.cells
    clear hk HB5 HS5 hb5
    rcases numI_cases (chansOf c.rows) dev ch with hn | ⟨j, y, hn, hy, hy1, hy2⟩
    · rw [hn]
      have hof : ofO (chansOf c.rows) (-1) = false := decide_eq_false (by omega)
      have HOF := Lib.hid hof
      clear hn hof
      go_wp2_with fail
      refine (of_any _ c (-1) _ ⟨_, _, rfl, HS6.out⟩ HN.out).mono ?_
      rintro e w7 ⟨rfl, hk⟩
      rw [HOF.out]
      have hb7 := Btrans hb6 hk
      clear hk hx
      go_wp2
      go_ret
      exact ⟨by first | rfl | simp, hb7⟩
    · rw [hn]
      have hof := of_at hy
      have HOF := Lib.hid hof
      have g1 : ((j : Int) == -1) = false := beq_false_of_ne (by omega)
      have g2 : decide ((j : Int) ≥ 0) = true := decide_eq_true (by omega)
      have g3 : ((y.1 : Int) == dev) = true := beq_iff_eq.2 hy1
      have g4 : ((y.2 : Int) == ch) = true := beq_iff_eq.2 hy2
      clear hn hof hy hy1 hy2
      go_wp2_with fail
      refine (of_any _ c (j : Int) _ ⟨_, _, rfl, HS6.out⟩ HN.out).mono ?_
      rintro e w7 ⟨rfl, hk⟩
      rw [HOF.out.1, HOF.out.2]
      have hb7 := Btrans hb6 hk
      clear hk hx
      go_wp2
      go_ret
      exact ⟨by first | rfl | simp, hb7⟩
end Go.Proofs.Ytconekaplneejaa
