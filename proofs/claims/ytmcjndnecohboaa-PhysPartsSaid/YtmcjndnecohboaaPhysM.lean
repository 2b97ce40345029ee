/- Layer 19: what the laws say of states. -/
import Derived.Test.YtmcjndnecohboaaPhysH
import Derived.Test.YtmcjndnecohboaaReg
namespace Go.Proofs.Ytmcjndnecohboaa
open Go.ChangeShapes Go.WideShapes Go.ChangeAt Go.RowKit
set_option linter.unusedVariables false
set_option linter.unusedSimpArgs false

theorem Row.shape2 {w : World} {v : Value} {xs : List Value} (h : Row w v xs) : ∃ A c, v = .slice A xs.length c ∧ xs.length ≤ c ∧ c ≤ 9223372036854775807 := by
  obtain ⟨A, c, h1, h2, h3, _⟩ := h
  exact ⟨A, c, h1, h2, h3⟩
theorem RowN.shape2 {k n : Nat} {w : World} {v : Value} {xs : List Value} (h : RowN k w v n xs) : ∃ A c, v = .slice A n c ∧ n ≤ c ∧ c ≤ 9223372036854775807 := by
  obtain ⟨_, A, c, h1, h2, h3, _⟩ := h
  exact ⟨A, c, h1, h2, h3⟩
theorem RowN.at2 {n : Nat} {w : World} {A : Option Addr} {c : Nat} {l : List (Bool × Bool)} (h : RowN 2 w (.slice A n c) n (al2 l)) (k : Nat) (x : Bool × Bool) (hx : l[k]? = some x) :
    ∃ ad, A = some ad ∧ w.cell? (ad.add (k * 2)) = some (.bool x.1) ∧ w.cell? ⟨(ad.add (k * 2)).block, (ad.add (k * 2)).off + 1, none⟩ = some (.bool x.2) := by
  obtain ⟨h0, A', c', h1, h2, h3, h4⟩ := h
  injection h1 with e1 e2 e3
  subst e1 e3
  have hk : k < l.length := (List.getElem?_eq_some_iff.1 hx).1
  have hl := al2_len l
  obtain ⟨y1, y2⟩ := al2_at l k x hx
  rcases h4 with ⟨_, h5⟩ | ⟨ad, h5, _, h6⟩
  · omega
  · refine ⟨ad, h5, h6 _ _ y1, ?_⟩
    have := h6 _ _ y2
    rw [← Go.Deep.add_add] at this
    exact this
theorem Row.at1 {w : World} {A : Option Addr} {n c : Nat} {xs : List Value} (h : Row w (.slice A n c) xs) (k : Nat) (x : Value) (hx : xs[k]? = some x) : ∃ ad, A = some ad ∧ w.cell? (ad.add k) = some x := by
  obtain ⟨A', c', h1, h2, h3, h4⟩ := h
  injection h1 with e1 e2 e3
  subst e1 e3
  have hk : k < xs.length := (List.getElem?_eq_some_iff.1 hx).1
  rcases h4 with ⟨_, h5⟩ | ⟨ad, h5, _, h6⟩
  · omega
  · exact ⟨ad, h5, h6 _ _ hx⟩

theorem right_zero (h : Int) (la : Bool) (hh : 1 ≤ h) : rightP h la ⟨0, false, false⟩ = true := by
  have : ¬ (0 = h) := by omega
  simp [rightP, this]; omega
theorem rightP_iff (h : Int) (la : Bool) (s : Ph) : rightP h la s = true ↔ 0 ≤ s.run ∧ s.run ≤ h ∧ (s.now = true ↔ s.run = h) ∧ (s.now = true → s.on = true) ∧ (la = false → s.on = s.now) := by
  obtain ⟨r, o, n⟩ := s
  unfold rightP
  simp only [Bool.and_eq_true, decide_eq_true_eq, beq_iff_eq, Bool.or_eq_true, Bool.not_eq_true']
  cases la <;> cases o <;> cases n <;> simp <;> omega
theorem right_step (h : Int) (la : Bool) (s : Ph) (t : Int) (ack : Bool) (hh : 1 ≤ h) (hr : rightP h la s = true) : rightP h la (pstep h la s t ack) = true := by
  rw [rightP_iff] at hr ⊢
  obtain ⟨r, o, n⟩ := s
  obtain ⟨h1, h2, h3, h4, h5⟩ := hr
  simp only at h1 h2 h3 h4 h5
  unfold pstep hrd
  by_cases t2 : t = 2
  · rw [if_pos t2]
    simp only
    by_cases hl : r + 1 < h
    · rw [if_pos hl]
      have hn : n = false := by cases n with
        | false => rfl
        | true => have := h3.1 rfl; omega
      subst hn
      cases la <;> cases o <;> cases ack <;> simp [akd] at * <;> omega
    · rw [if_neg hl]
      cases la <;> cases ack <;> simp [akd] <;> omega
  · rw [if_neg t2]
    by_cases t1 : t = 1
    · rw [if_pos t1]
      cases la <;> cases o <;> cases ack <;> simp [akd] at * <;> omega
    · rw [if_neg t1]
      cases la <;> cases o <;> cases n <;> cases ack <;> simp [akd] at * <;> omega
theorem prun_right (h : Int) (la : Bool) (l : List Int) (m : List Bool) (k : Nat) (hh : 1 ≤ h) : rightP h la (prun h la l m k) = true := by
  induction k with
  | zero => exact right_zero h la hh
  | succ k ih => exact right_step h la _ _ _ hh ih

/-- what an alarm tells, by the one ahead -/
theorem step_on (h : Int) (la : Bool) (s : Ph) (t : Int) (ack : Bool) (hh : 1 ≤ h) (hr : rightP h la s = true) :
    (pstep h la s t ack).on = (if (pstep h la s t ack).now = true then true else if la = false ∨ ack = true then false else s.on) := by
  rw [rightP_iff] at hr
  obtain ⟨r, o, n⟩ := s
  obtain ⟨h1, h2, h3, h4, h5⟩ := hr
  simp only at h1 h2 h3 h4 h5
  unfold pstep hrd
  by_cases t2 : t = 2
  · rw [if_pos t2]
    simp only
    by_cases hl : r + 1 < h
    · rw [if_pos hl]
      have hn : n = false := by cases n with
        | false => rfl
        | true => have := h3.1 rfl; omega
      subst hn
      cases la <;> cases o <;> cases ack <;> simp [akd] at *
    · rw [if_neg hl]
      cases la <;> cases ack <;> simp [akd]
  · rw [if_neg t2]
    by_cases t1 : t = 1
    · rw [if_pos t1]
      cases la <;> cases o <;> cases ack <;> simp [akd] at *
    · rw [if_neg t1]
      cases la <;> cases o <;> cases n <;> cases ack <;> simp [akd] at *

/-- how many Trues came behind the last False -/
def trs (l : List Int) : Nat → Int
  | 0 => 0
  | i + 1 => if l.getD i 0 = 2 then trs l i + 1 else if l.getD i 0 = 1 then 0 else trs l i
theorem trs_bd (l : List Int) (k : Nat) : 0 ≤ trs l k ∧ trs l k ≤ k := by
  induction k with
  | zero => simp [trs]
  | succ k ih => unfold trs; (repeat' split) <;> omega
theorem prun_run (h : Int) (la : Bool) (l : List Int) (m : List Bool) (k : Nat) (hh : 1 ≤ h) : (prun h la l m k).run = min (trs l k) h := by
  induction k with
  | zero => show (0 : Int) = min 0 h; omega
  | succ k ih =>
    have hr := trs_bd l k
    show (pstep h la (prun h la l m k) (l.getD k 0) (m.getD k false)).run = _
    have e : ∀ s a, (akd s a).run = s.run := fun s a => by unfold akd; split <;> rfl
    unfold pstep
    rw [e]
    unfold hrd trs
    by_cases t2 : l.getD k 0 = 2
    · rw [if_pos t2, if_pos t2, ih]
      split <;> simp only <;> omega
    · rw [if_neg t2, if_neg t2]
      by_cases t1 : l.getD k 0 = 1
      · rw [if_pos t1, if_pos t1]; simp only; omega
      · rw [if_neg t1, if_neg t1, ih]
theorem prun_now (h : Int) (la : Bool) (l : List Int) (m : List Bool) (k : Nat) (hh : 1 ≤ h) : (prun h la l m k).now = decide (h ≤ trs l k) ∧ ((prun h la l m k).now = true → (prun h la l m k).on = true) := by
  have h1 := prun_right h la l m k hh
  have h2 := prun_run h la l m k hh
  rw [rightP_iff] at h1
  refine ⟨?_, h1.2.2.2.1⟩
  rw [Bool.eq_iff_iff, h1.2.2.1, h2, decide_eq_true_eq]
  omega
theorem alarms_at (h : Int) (la : Bool) (l : List Int) (m : List Bool) (k : Nat) (hk : k < l.length) : (alarms h la l m)[k]? = some ((prun h la l m (k + 1)).on, (prun h la l m (k + 1)).now) := by
  unfold alarms alarmsTo
  rw [List.getElem?_map, List.getElem?_range hk]
  rfl
theorem alarms_len (h : Int) (la : Bool) (l : List Int) (m : List Bool) : (alarms h la l m).length = l.length := alarmsTo_len h la l m l.length
theorem prun_more (h : Int) (la : Bool) (l : List Int) (m : List Bool) (n k : Nat) : prun h la l (m ++ List.replicate n false) k = prun h la l m k := by
  induction k with
  | zero => rfl
  | succ k ih =>
    show pstep h la (prun h la l (m ++ List.replicate n false) k) (l.getD k 0) ((m ++ List.replicate n false).getD k false) = pstep h la (prun h la l m k) (l.getD k 0) (m.getD k false)
    rw [ih]
    congr 1
    simp only [List.getD_eq_getElem?_getD]
    by_cases hk : k < m.length
    · rw [List.getElem?_append_left hk]
    · rw [List.getElem?_append_right (by omega), List.getElem?_eq_none (l := m) (by omega)]
      rw [List.getElem?_replicate]
      split <;> rfl
theorem alarms_more (h : Int) (la : Bool) (l : List Int) (m : List Bool) (n : Nat) : alarms h la l (m ++ List.replicate n false) = alarms h la l m := by
  unfold alarms alarmsTo
  simp only [prun_more]
end Go.Proofs.Ytmcjndnecohboaa
