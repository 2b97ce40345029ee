/- Layer 21: what the laws say of settings. -/
import Derived.Test.YtcdmojimdiiepaaAlarmF
import Derived.Test.YtcdmojimdiiepaaAlarmH
import Derived.Test.YtcdmojimdiiepaaConfK
namespace Go.Proofs.Ytcdmojimdiiepaa
open Go.ChangeShapes Go.WideShapes Go.ChangeAt Go.RowKit
set_option linter.unusedVariables false
set_option linter.unusedSimpArgs false

theorem great_n {c : Cf} {rs : List Rl} (h : greatA c rs = false) : (chansOf c.rows).length ≤ 2500 := by
  unfold greatA at h
  rw [Bool.or_eq_false_iff, Bool.or_eq_false_iff] at h
  exact great_len h.1.1
theorem right_n {c : Cf} {rs : List Rl} (h : rightA c rs = true) : rs.length ≤ 8 ∧ 1 ≤ c.St ∧ c.St ≤ 1000 ∧ 0 < (chansOf c.rows).length ∧ ∀ r ∈ rs, ruleB r.hold r.l ((chansOf c.rows).length : Int) = true := by
  unfold rightA at h
  rw [Bool.and_eq_true, Bool.and_eq_true, decide_eq_true_eq, List.all_eq_true] at h
  obtain ⟨⟨h1, h2⟩, h3⟩ := h
  obtain ⟨_, _, k3, k4⟩ := confP h1
  refine ⟨h2, k3.2.2.1, k3.2.2.2.1, ?_, h3⟩
  have hr : 0 < c.rows.length := by omega
  have hl : 0 < lenAt c.rows 0 := by
    obtain ⟨r, hr0⟩ : ∃ r, c.rows[0]? = some r := ⟨_, List.getElem?_eq_getElem hr⟩
    rw [lenAt_some hr0]
    have := (k4 r (List.mem_of_getElem? hr0)).1
    omega
  have := came_lt c.rows 0 0 hr hl
  omega
theorem newL_ok {c : Cf} {rs : List Rl} (h : rightA c rs = true) : ∀ x ∈ newL rs, x.ok (chansOf c.rows).length := by
  obtain ⟨_, _, _, _, h5⟩ := right_n h
  intro x hx
  obtain ⟨r, hr, rfl⟩ := List.mem_map.1 hx
  have h6 := h5 r hr
  obtain ⟨h7, _⟩ := rule_h h6
  exact ⟨h6, Int.le_refl _, by show (0 : Int) ≤ r.hold; omega⟩
theorem newM_ok {c : Cf} {rs : List Rl} (h : rightA c rs = true) : ∀ x ∈ newM c, x.ok (chansOf c.rows).length := by
  obtain ⟨_, h2, h3, _, _⟩ := right_n h
  intro x hx
  obtain ⟨i, hi, rfl⟩ := List.mem_map.1 hx
  exact ⟨List.mem_range.1 hi, h2, h3, Int.le_refl _, by show (0 : Int) ≤ c.St; omega⟩
theorem newL_len (rs : List Rl) : (newL rs).length = rs.length := by simp [newL]
theorem newM_len (c : Cf) : (newM c).length = (chansOf c.rows).length := by simp [newM]
theorem OpsV.below {w w' : World} {v : Value} {l : List Ol} (h : OpsV w v l) (hb : Below w.heap.size w w') : OpsV w' v l := by
  obtain ⟨A, c, e, h1, h2⟩ := h
  exact ⟨A, c, e, h1.below hb, fun o ho => (h2 o ho).below hb⟩
/-- cells that were there before all alarms -/
theorem FrC.of {w : World} {lo hi : Nat} {A : Option Addr} {c : Nat} {cs : List Cl} (h : RowN 3 w (.slice A cs.length c) cs.length (c3c cs)) (hn : 0 < cs.length) (hl : w.heap.size ≤ lo) : FrC lo hi A := by
  intro ad e
  obtain ⟨_, A', c', e1, _, _, hA⟩ := h
  injection e1 with e1 _ _
  subst e1
  rcases hA with ⟨h1, _⟩ | ⟨ad', h1, h2, _⟩
  · rw [h1] at e; cases e
  · rw [h1] at e
    injection e with e
    subst e
    have := h2 (by rw [c3c_len]; omega)
    omega
end Go.Proofs.Ytcdmojimdiiepaa
