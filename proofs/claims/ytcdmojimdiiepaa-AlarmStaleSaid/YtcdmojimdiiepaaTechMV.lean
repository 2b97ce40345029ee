/- Layer 20: what the laws say of states. -/
import Derived.Test.YtcdmojimdiiepaaTechHV
namespace Go.Proofs.Ytcdmojimdiiepaa
open Go.ChangeShapes Go.WideShapes Go.ChangeAt Go.RowKit
set_option linter.unusedVariables false
set_option linter.unusedSimpArgs false

theorem rightT_iff (k : Int) (s : Te) : rightT k s = true ↔ 0 ≤ s.run ∧ s.run ≤ k ∧ (s.now = true ↔ s.run = k) ∧ (s.now = true → s.on = true) ∧ (s.ok = true → s.on = true ∧ s.now = true) := by
  obtain ⟨r, o, n, q⟩ := s
  unfold rightT
  simp only [Bool.and_eq_true, decide_eq_true_eq, beq_iff_eq, Bool.or_eq_true, Bool.not_eq_true']
  cases o <;> cases n <;> cases q <;> simp <;> omega
theorem right_zero (k : Int) (hk : 1 ≤ k) : rightT k ⟨0, false, false, false⟩ = true := by
  rw [rightT_iff]; simp; omega
theorem lst_right (k : Int) (s : Te) (x : Bool) (hk : 1 ≤ k) (hr : rightT k s = true) : 0 ≤ (lst k s x).run ∧ (lst k s x).run ≤ k ∧ ((lst k s x).now = true ↔ (lst k s x).run = k) ∧ ((lst k s x).now = true → (lst k s x).on = true) ∧
    ((lst k s x).ok = true → (lst k s x).on = true) := by
  rw [rightT_iff] at hr
  obtain ⟨r, o, n, q⟩ := s
  obtain ⟨h1, h2, h3, h4, h5⟩ := hr
  simp only at h1 h2 h3 h4 h5
  unfold lst
  cases x
  · simp only [Bool.false_eq_true, if_false]
    by_cases hl : r + 1 < k
    · rw [if_pos hl]
      have hn : n = false := by cases n with
        | false => rfl
        | true => have := h3.1 rfl; omega
      subst hn
      simp only
      refine ⟨by omega, by omega, ?_, by simp, fun h => (h5 h).1⟩
      simp; omega
    · rw [if_neg hl]
      simp only
      simp; omega
  · simp only [if_true]
    refine ⟨by omega, by omega, ?_, by simp, fun h => (h5 h).1⟩
    simp; omega
theorem right_step (k : Int) (s : Te) (x y : Bool) (hk : 1 ≤ k) (hr : rightT k s = true) : rightT k (tstep k s x y) = true := by
  have h := lst_right k s x hk hr
  unfold tstep
  generalize lst k s x = t at h
  rw [rightT_iff]
  obtain ⟨r, o, n, q⟩ := t
  obtain ⟨h1, h2, h3, h4, h5⟩ := h
  simp only at h1 h2 h3 h4 h5
  unfold clr akt
  cases o <;> cases n <;> cases q <;> cases y <;> simp at * <;> omega
theorem trun_right (k : Int) (l m : List Bool) (n : Nat) (hk : 1 ≤ k) : rightT k (trun k l m n) = true := by
  induction n with
  | zero => exact right_zero k hk
  | succ n ih => exact right_step k _ _ _ hk ih
/-- how many came without a sample -/
def nns (l : List Bool) : Nat → Int
  | 0 => 0
  | i + 1 => if l.getD i false = true then 0 else nns l i + 1
theorem nns_bd (l : List Bool) (k : Nat) : 0 ≤ nns l k ∧ nns l k ≤ k := by
  induction k with
  | zero => simp [nns]
  | succ k ih => unfold nns; split <;> omega
theorem trun_run (k : Int) (l m : List Bool) (n : Nat) (hk : 1 ≤ k) : (trun k l m n).run = min (nns l n) k := by
  induction n with
  | zero => show (0 : Int) = min 0 k; omega
  | succ n ih =>
    have hr := nns_bd l n
    show (tstep k (trun k l m n) (l.getD n false) (m.getD n false)).run = _
    rw [tstep_run]
    unfold lst nns
    by_cases t2 : l.getD n false = true
    · rw [if_pos t2, if_pos t2]; simp only; omega
    · rw [if_neg t2, if_neg t2, ih]
      split <;> simp only <;> omega
theorem trun_now (k : Int) (l m : List Bool) (n : Nat) (hk : 1 ≤ k) : (trun k l m n).now = decide (k ≤ nns l n) ∧ ((trun k l m n).now = true → (trun k l m n).on = true) := by
  have h1 := trun_right k l m n hk
  have h2 := trun_run k l m n hk
  rw [rightT_iff] at h1
  refine ⟨?_, h1.2.2.2.1⟩
  rw [Bool.eq_iff_iff, h1.2.2.1, h2, decide_eq_true_eq]
  omega
theorem alarms_at (k : Int) (l m : List Bool) (n : Nat) (hn : n < l.length) : (talarms k l m)[n]? = some ((trun k l m (n + 1)).on, (trun k l m (n + 1)).now) := by
  unfold talarms talarmsTo
  rw [List.getElem?_map, List.getElem?_range hn]
  rfl
theorem alarms_len (k : Int) (l m : List Bool) : (talarms k l m).length = l.length := talarmsTo_len k l m l.length
/-- what stays told -/
def slawOn (pn now on : Bool) : Bool := if now && !pn then true else on
def slawOk (pn now on ok y : Bool) : Bool := if slawOn pn now on && y then true else if now && !pn then false else ok
def slawEnd (pn now on ok y : Bool) : Bool := if slawOn pn now on && slawOk pn now on ok y && !now then false else slawOn pn now on
theorem stays_step (k : Int) (s : Te) (x y ok : Bool) (hk : 1 ≤ k) (hr : rightT k s = true) (ho : s.on = true → ok = s.ok) :
    (tstep k s x y).on = slawEnd s.now (tstep k s x y).now s.on ok y ∧ ((tstep k s x y).on = true → slawOk s.now (tstep k s x y).now s.on ok y = (tstep k s x y).ok) := by
  rw [rightT_iff] at hr
  obtain ⟨r, o, n, q⟩ := s
  obtain ⟨h1, h2, h3, h4, h5⟩ := hr
  simp only at h1 h2 h3 h4 h5 ho
  unfold tstep lst
  cases x
  · simp only [Bool.false_eq_true, if_false]
    by_cases hl : r + 1 < k
    · rw [if_pos hl]
      have hn : n = false := by cases n with
        | false => rfl
        | true => have := h3.1 rfl; omega
      subst hn
      cases o <;> cases q <;> cases y <;> cases ok <;> simp [clr, akt, slawEnd, slawOn, slawOk] at *
    · rw [if_neg hl]
      cases o <;> cases n <;> cases q <;> cases y <;> cases ok <;> simp [clr, akt, slawEnd, slawOn, slawOk] at *
  · simp only [if_true]
    cases o <;> cases n <;> cases q <;> cases y <;> cases ok <;> simp [clr, akt, slawEnd, slawOn, slawOk] at *
theorem quiet_ok (k : Int) (l : List Bool) (n : Nat) : (trun k l [] n).ok = false := by
  induction n with
  | zero => rfl
  | succ n ih =>
    show (tstep k (trun k l [] n) (l.getD n false) (([] : List Bool).getD n false)).ok = false
    have e : ([] : List Bool).getD n false = false := by simp
    rw [e]
    generalize trun k l [] n = s at ih
    obtain ⟨r, o, nw, q⟩ := s
    simp only at ih
    subst ih
    unfold tstep lst clr akt
    (repeat' split) <;> simp_all
theorem quiet_on (k : Int) (l : List Bool) (n : Nat) (h : (trun k l [] n).on = true) : (trun k l [] (n + 1)).on = true := by
  show (tstep k (trun k l [] n) (l.getD n false) (([] : List Bool).getD n false)).on = true
  have e : ([] : List Bool).getD n false = false := by simp
  rw [e]
  have hq := quiet_ok k l n
  generalize trun k l [] n = s at h hq
  obtain ⟨r, o, nw, q⟩ := s
  simp only at h hq
  subst h hq
  unfold tstep lst clr akt
  (repeat' split) <;> simp_all
theorem quiet_all (k : Int) (j : Nat) (m : List Bool) (n : Nat) (hk : 1 ≤ k) (hn : n ≤ j) : (trun k (List.replicate j true) m n) = ⟨0, false, false, false⟩ := by
  induction n with
  | zero => rfl
  | succ n ih =>
    show tstep k (trun k (List.replicate j true) m n) ((List.replicate j true).getD n false) (m.getD n false) = _
    rw [ih (by omega)]
    have e : (List.replicate j true).getD n false = true := by rw [List.getD_eq_getElem?_getD, List.getElem?_replicate, if_pos (by omega)]; rfl
    rw [e]
    simp [tstep, lst, clr, akt]
theorem trun_more (k : Int) (l m : List Bool) (j n : Nat) : trun k l (m ++ List.replicate j false) n = trun k l m n := by
  induction n with
  | zero => rfl
  | succ n ih =>
    show tstep k (trun k l (m ++ List.replicate j false) n) (l.getD n false) ((m ++ List.replicate j false).getD n false) = tstep k (trun k l m n) (l.getD n false) (m.getD n false)
    rw [ih]
    congr 1
    simp only [List.getD_eq_getElem?_getD]
    by_cases hk : n < m.length
    · rw [List.getElem?_append_left hk]
    · rw [List.getElem?_append_right (by omega), List.getElem?_eq_none (l := m) (by omega)]
      rw [List.getElem?_replicate]
      split <;> rfl
theorem alarms_more (k : Int) (l m : List Bool) (j : Nat) : talarms k l (m ++ List.replicate j false) = talarms k l m := by
  unfold talarms talarmsTo
  simp only [trun_more]
end Go.Proofs.Ytcdmojimdiiepaa
