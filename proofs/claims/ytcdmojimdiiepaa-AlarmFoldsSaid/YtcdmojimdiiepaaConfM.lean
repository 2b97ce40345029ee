/- Layer 5: the document's Many and Of. -/
import Derived.Test.YtcdmojimdiiepaaConfK
namespace Go.Proofs.Ytcdmojimdiiepaa
open Go.ChangeShapes Go.WideShapes Go.ChangeAt Go.RowKit
set_option linter.unusedVariables false
set_option linter.unusedSimpArgs false

theorem came_len (rows : List (List Int)) (k j : Nat) : (came rows k j).length = (came rows k 0).length + j := by
  induction j with
  | zero => rfl
  | succ j ih => rw [came_step, List.length_append, ih]; simp; omega
theorem came_len_next (rows : List (List Int)) (k : Nat) : (came rows (k + 1) 0).length = (came rows k 0).length + lenAt rows k := by rw [came_next, came_len]
theorem lenAt_some {rows : List (List Int)} {k : Nat} {r : List Int} (h : rows[k]? = some r) : lenAt rows k = r.length := by unfold lenAt; rw [h]; rfl
theorem came_le (rows : List (List Int)) (k : Nat) (hk : k < rows.length) (j : Nat) (hj : j ≤ lenAt rows k) : (came rows k 0).length + j ≤ (chansOf rows).length := by
  have := (came_in rows k j hk hj).length_le
  rw [came_len] at this
  exact this
theorem chans_at (rows : List (List Int)) (k j : Nat) (hk : k < rows.length) (hj : j < lenAt rows k) : (chansOf rows)[(came rows k 0).length + j]? = some (k, j) := by
  obtain ⟨t, ht⟩ := came_in rows k (j + 1) hk hj
  rw [← ht, came_step, List.append_assoc, ← came_len, List.getElem?_append_right (Nat.le_refl _), Nat.sub_self]
  rfl

set_option maxRecDepth 100000 in
set_option maxHeartbeats 4000000 in
theorem rmany_any (v : Value) (c : Cf) (w : World) (h : IsConf w v c) (hN : (chansOf c.rows).length ≤ 1000000) :
    Calls Try.prog 23 #[v] w fun e w' => e = .returned (.int .i64 ((chansOf c.rows).length : Int)) ∧ Below w.heap.size w w' := by
  obtain ⟨s, r, rfl, hs⟩ := h
  have HS := Lib.hid (hs.below (show Below w.heap.size w (w.alloc (.cells #[.int .i64 c.P, .int .i64 c.H, .int .i64 c.C, .int .i64 c.Mn, .int .i64 c.Mx, .int .i64 c.Rho, .int .i64 c.Bd, .int .i64 c.Win, .int .i64 c.St, s, r] 25)) from (Below.refl _ _).alloc (Nat.le_refl _) _))
  obtain ⟨A, cp, rfl, _, _, q⟩ := hs.src
  obtain ⟨A', cp', e', _, _, hcell⟩ := HS.out.src
  injection e' with e1 e2 e3
  subst e1 e3
  have HC := Lib.hid hcell
  clear hs q hcell e2 HS
  go_enter Try.func23, Try.ntmps23
  go_wp2_with fail
  go_loop [3, 4] (fun n i => ∃ k : Nat, k ≤ c.rows.length ∧ i = .int .i64 k ∧ n = .int .i64 ((came c.rows k 0).length : Int)) (fun _ i => c.rows.length - (intOf i).toNat)
  case atStart => exact ⟨0, Nat.zero_le _, rfl, rfl⟩
  case round =>
    obtain ⟨k, hk, rfl, rfl⟩ := hrel
    by_cases hlt : k < c.rows.length
    · obtain ⟨x, hx⟩ : ∃ x, c.rows[k]? = some x := ⟨_, List.getElem?_eq_getElem hlt⟩
      obtain ⟨ad, B, d, rfl, _, c0, _, _⟩ := HC.out k x hx
      have HL := Lib.hid (show (came c.rows (k + 1) 0).length = (came c.rows k 0).length + x.length by rw [came_len_next, lenAt_some hx])
      have hle : (came c.rows k 0).length + x.length ≤ 1000000 := Nat.le_trans (by have := came_le c.rows k hlt (lenAt c.rows k) (Nat.le_refl _); rw [lenAt_some hx] at this; exact this) hN
      clear hx
      generalize (came c.rows k 0).length = m at *
      go_wp2
      go_round
      case rel => exact ⟨k + 1, by omega, by go_num, by rw [HL.out]; go_num⟩
      case measure => simp [intOf]; omega
    · have he : k = c.rows.length := by omega
      subst he
      go_wp2
      go_ret
      exact ⟨rfl, by go_grown⟩

end Go.Proofs.Ytcdmojimdiiepaa
