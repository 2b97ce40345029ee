/- Layer 5: Right. -/
import Derived.Test.YtcdmojimdiiepaaConfC
namespace Go.Proofs.Ytcdmojimdiiepaa
open Go.ChangeShapes Go.WideShapes Go.ChangeAt Go.RowKit
set_option linter.unusedVariables false
set_option linter.unusedSimpArgs false

theorem conf_all (P H C Mn Mx Rho B Win St : Int) (n : Nat) (q : Int) (hq : 1 ≤ H ∧ H ≤ 32 → q = H + 1) :
    ([⟨P, 1, 1000000⟩, ⟨H, 1, 32⟩, ⟨C, q, 64⟩, ⟨Mn, 0, Mx⟩, ⟨Mx, 0, 1000000000⟩, ⟨Rho, 0, 100000⟩, ⟨B, 0, 1000000000⟩, ⟨Win, 1, 1000⟩, ⟨St, 1, 1000⟩, ⟨n, 1, 4⟩] : List Bd).all Bd.ok =
      (decide (1 ≤ P ∧ P ≤ 1000000 ∧ 1 ≤ H ∧ H ≤ 32 ∧ H < C ∧ C ≤ 64) && decide (0 ≤ Mn ∧ Mn ≤ Mx ∧ Mx ≤ 1000000000 ∧ 0 ≤ Rho ∧ Rho ≤ 100000 ∧ 0 ≤ B ∧ B ≤ 1000000000) && decide (1 ≤ Win ∧ Win ≤ 1000 ∧ 1 ≤ St ∧ St ≤ 1000 ∧ 1 ≤ n ∧ n ≤ 4)) := by
  by_cases hH : 1 ≤ H ∧ H ≤ 32
  · have e := hq hH
    subst e
    simp only [List.all_cons, List.all_nil, Bool.and_true, Bd.ok]
    rw [Bool.eq_iff_iff]
    simp only [Bool.and_eq_true, decide_eq_true_eq]
    omega
  · rw [Bool.eq_iff_iff]
    simp only [List.all_cons, List.all_nil, Bool.and_true, Bd.ok, Bool.and_eq_true, decide_eq_true_eq]
    constructor
    · intro h
      exact absurd h.2.1 hH
    · intro h
      exact absurd ⟨h.1.1.2.2.1, h.1.1.2.2.2.1⟩ hH

set_option maxRecDepth 100000 in
set_option maxHeartbeats 4000000 in
theorem right_any (v : Value) (c : Cf) (w : World) (h : IsConf w v c) :
    Calls Try.prog 30 #[v] w fun e w' => e = .returned (.bool (confO c)) ∧ Below w.heap.size w w' := by
  obtain ⟨s, r, rfl, hs⟩ := h
  have HS := Lib.hid hs
  obtain ⟨A, cp, rfl, hc, hcm, _⟩ := hs.src
  clear hs
  obtain ⟨P, H, C, Mn, Mx, Rho, Bo, Win, St, rows⟩ := c
  simp only at HS hc ⊢
  obtain ⟨q, hq⟩ : ∃ q, q = wrap64 (H + 1) := ⟨_, rfl⟩
  have hqi : 1 ≤ H ∧ H ≤ 32 → q = H + 1 := fun h => by rw [hq, IntWalk.wrap64_in _ (by omega)]
  have HALL := Lib.hid (conf_all P H C Mn Mx Rho Bo Win St rows.length q hqi)
  have HO : Hid (confO ⟨P, H, C, Mn, Mx, Rho, Bo, Win, St, rows⟩ = ((decide (1 ≤ P ∧ P ≤ 1000000 ∧ 1 ≤ H ∧ H ≤ 32 ∧ H < C ∧ C ≤ 64) && decide (0 ≤ Mn ∧ Mn ≤ Mx ∧ Mx ≤ 1000000000 ∧ 0 ≤ Rho ∧ Rho ≤ 100000 ∧ 0 ≤ Bo ∧ Bo ≤ 1000000000) && decide (1 ≤ Win ∧ Win ≤ 1000 ∧ 1 ≤ St ∧ St ≤ 1000 ∧ 1 ≤ rows.length ∧ rows.length ≤ 4)) && rows.all rowB)) := Lib.hid rfl
  have HQ := Lib.hid hq
  clear hqi hq
  go_enter Try.func30, Try.ntmps30
  go_wp2_with fail
  try rw [← HQ.out]
  have hBx := Lib.hid (Blk.new w 25 #[.int .i64 P, .int .i64 H, .int .i64 C, .int .i64 Mn, .int .i64 Mx, .int .i64 Rho, .int .i64 Bo, .int .i64 Win, .int .i64 St, .slice A rows.length cp, r] _ rfl)
  refine (within_any _ [⟨P, 1, 1000000⟩, ⟨H, 1, 32⟩, ⟨C, q, 64⟩, ⟨Mn, 0, Mx⟩, ⟨Mx, 0, 1000000000⟩, ⟨Rho, 0, 100000⟩, ⟨Bo, 0, 1000000000⟩, ⟨Win, 1, 1000⟩, ⟨St, 1, 1000⟩, ⟨rows.length, 1, 4⟩] _ (RowN.of_blk (Blk.new _ _ _ _ (by simp)) rfl rfl (Nat.le_refl _) (show (10 : Nat) ≤ maxLen by decide))).mono ?_
  rintro e w1 ⟨rfl, hk1⟩
  have hb1 : Below w.heap.size w w1 := (show Below w.heap.size w _ by go_grown).trans (hk1.mono (by simp; omega))
  have HB1 := Lib.hid ((hBx.out.al _).below hk1)
  have hx := HB1.out.cells
  have HS1 := Lib.hid (HS.out.below hb1)
  rw [HALL.out]
  clear hk1 hBx HALL
  generalize hg : (decide (1 ≤ P ∧ P ≤ 1000000 ∧ 1 ≤ H ∧ H ≤ 32 ∧ H < C ∧ C ≤ 64) && decide (0 ≤ Mn ∧ Mn ≤ Mx ∧ Mx ≤ 1000000000 ∧ 0 ≤ Rho ∧ Rho ≤ 100000 ∧ 0 ≤ Bo ∧ Bo ≤ 1000000000) && decide (1 ≤ Win ∧ Win ≤ 1000 ∧ 1 ≤ St ∧ St ≤ 1000 ∧ 1 ≤ rows.length ∧ rows.length ≤ 4)) = g at *
  clear hg
  cases g with
  | false =>
    go_wp2
    go_ret
    exact ⟨by rw [HO.out]; rfl, hb1⟩
  | true =>
    go_wp2_with fail
    refine (stepsR_any _ rows _ HS1.out).mono ?_
    rintro e w2 ⟨rfl, hk2⟩
    have hb2 := Btrans hb1 hk2
    clear hk2
    go_wp2
    go_ret
    exact ⟨by rw [HO.out, Bool.true_and]; rfl, hb2⟩
end Go.Proofs.Ytcdmojimdiiepaa
