/- Layer 5: whether a setting is right, by the program. -/
import Derived.Test.YtoiaagdpckgpoaaConfB
namespace Go.Proofs.Ytoiaagdpckgpoaa
open Go.ChangeShapes Go.WideShapes Go.ChangeAt Go.RowKit
set_option linter.unusedVariables false
set_option linter.unusedSimpArgs false

theorem one_bd {w : World} {g : Nat} {n lo hi : Int} {t : TypeId} (h : Blk w g t #[.int .i64 n, .int .i64 lo, .int .i64 hi]) : RowN 3 w (.slice (some ⟨g, 0, none⟩) 1 1) 1 (bd3 [⟨n, lo, hi⟩]) :=
  RowN.of_blk h rfl rfl (Nat.le_refl _) (by decide)
def rowB (r : List Int) : Bool := decide (1 ≤ r.length ∧ r.length ≤ 4) && r.all fun x => decide (1 ≤ x ∧ x ≤ 1000000)
theorem Rows2.src {w : World} {v : Value} {rows : List (List Int)} (h : Rows2 w v rows) : ∃ A c, v = .slice A rows.length c ∧ rows.length ≤ c ∧ c ≤ 9223372036854775807 ∧
    ∀ (k : Nat) r, rows[k]? = some r → ∃ ad B d, A = some ad ∧ ad.block < w.heap.size ∧ w.cell? (ad.add k) = some (.slice B r.length d) ∧ r.length ≤ 9223372036854775807 ∧
      ∀ (j : Nat) x, r[j]? = some x → ∃ bd, B = some bd ∧ bd.block < w.heap.size ∧ w.cell? (bd.add j) = some (.int .i64 x) := by
  obtain ⟨vs, ⟨A, c, h1, h2, h3, hA⟩, hl, hr⟩ := h
  rw [hl] at h1 h2
  unfold maxLen at h3
  refine ⟨A, c, h1, h2, h3, fun k r hk => ?_⟩
  obtain ⟨u, hu, B, d, e1, e2, e3, hB⟩ := hr k r hk
  have hkl : k < rows.length := (List.getElem?_eq_some_iff.1 hk).1
  rcases hA with ⟨_, h0⟩ | ⟨ad, e, hb, hc⟩
  · omega
  · rw [List.length_map] at e1 e2 hB
    refine ⟨ad, B, d, e, hb (by omega), by rw [hc k u hu, e1], by unfold maxLen at e3; omega, fun j x hx => ?_⟩
    have hj : j < r.length := (List.getElem?_eq_some_iff.1 hx).1
    rcases hB with ⟨_, h0⟩ | ⟨bd, e, hb2, hc2⟩
    · omega
    · exact ⟨bd, e, hb2 (by omega), hc2 j _ (by rw [List.getElem?_map, hx]; rfl)⟩

end Go.Proofs.Ytoiaagdpckgpoaa
