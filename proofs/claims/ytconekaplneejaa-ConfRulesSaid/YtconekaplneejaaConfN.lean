/- Layer 5: the document's Number. -/
import Derived.Test.YtconekaplneejaaConfM
namespace Go.Proofs.Ytconekaplneejaa
open Go.ChangeShapes Go.WideShapes Go.ChangeAt Go.RowKit
set_option linter.unusedVariables false
set_option linter.unusedSimpArgs false

theorem numI_in (rows : List (List Int)) (d h : Nat) (hd : d < rows.length) (hh : h < lenAt rows d) : numI (chansOf rows) (d : Int) (h : Int) = (((came rows d 0).length + h : Nat) : Int) :=
  numI_at (x := (d, h)) (chans_nodup rows) (chans_at rows d h hd hh)
theorem came_mem (rows : List (List Int)) : ∀ k j x, j ≤ lenAt rows k → x ∈ came rows k j → x.2 < lenAt rows x.1 ∧ x.1 ≤ k := by
  have step : ∀ k, (∀ x, x ∈ came rows k 0 → x.2 < lenAt rows x.1 ∧ x.1 ≤ k) → ∀ j x, j ≤ lenAt rows k → x ∈ came rows k j → x.2 < lenAt rows x.1 ∧ x.1 ≤ k := by
    intro k h j
    induction j with
    | zero => intro x _ hx; exact h x hx
    | succ j ih =>
      intro x hj hx
      rw [came_step] at hx
      rcases List.mem_append.1 hx with h1 | h1
      · exact ih x (by omega) h1
      · simp at h1; subst h1; exact ⟨by simp only; omega, Nat.le_refl _⟩
  intro k
  induction k with
  | zero => exact step 0 (by simp [came_zero])
  | succ k ih =>
    refine step (k + 1) (fun x hx => ?_)
    rw [came_next] at hx
    have := ih _ x (Nat.le_refl _) hx
    exact ⟨this.1, by omega⟩
theorem numI_out (rows : List (List Int)) (d h : Int) (H : ¬ ∃ (a b : Nat), d = (a : Int) ∧ h = (b : Int) ∧ a < rows.length ∧ b < lenAt rows a) : numI (chansOf rows) d h = -1 := by
  refine numI_none fun y hy => ?_
  rw [Bool.eq_false_iff]
  intro hc
  obtain ⟨h1, h2⟩ := (isCh_iff _ _ _).1 hc
  have h3 := ((came_nodup rows rows.length 0).2 y hy)
  have h4 : y.1 < rows.length := by omega
  have h5 : y.2 < lenAt rows y.1 := by
    have := (came_mem rows rows.length 0 y (Nat.zero_le _) hy).1
    exact this
  exact H ⟨y.1, y.2, h1.symm, h2.symm, h4, h5⟩

set_option maxRecDepth 100000 in
set_option maxHeartbeats 4000000 in
theorem rnumber_any (v : Value) (c : Cf) (dev ch : Int) (w : World) (h : IsConf w v c) (hN : (chansOf c.rows).length ≤ 1000000) :
    Calls Try.prog 18 #[v, .int .i64 dev, .int .i64 ch] w fun e w' => e = .returned (.int .i64 (numI (chansOf c.rows) dev ch)) ∧ Below w.heap.size w w' := by
  obtain ⟨s, r, rfl, hs⟩ := h
  have HS := Lib.hid (hs.below (show Below w.heap.size w (w.alloc (.cells #[.int .i64 c.P, .int .i64 c.H, .int .i64 c.C, .int .i64 c.Mn, .int .i64 c.Mx, .int .i64 c.Rho, .int .i64 c.Bd, .int .i64 c.Win, .int .i64 c.St, s, r] 25)) from (Below.refl _ _).alloc (Nat.le_refl _) _))
  obtain ⟨A, cp, rfl, _, _, q⟩ := hs.src
  obtain ⟨A', cp', e', _, _, hcell⟩ := HS.out.src
  injection e' with e1 e2 e3
  subst e1 e3
  have HC := Lib.hid hcell
  clear hs q hcell e2 HS
  by_cases h1 : dev < 0
  · have HO := Lib.hid (numI_out c.rows dev ch (by rintro ⟨a, b, e1, e2, _⟩; omega))
    go_enter Try.func18, Try.ntmps18
    go_wp2
    go_ret
    exact ⟨by rw [HO.out]; rfl, by go_grown⟩
  by_cases h2 : dev ≥ (c.rows.length : Int)
  · have HO := Lib.hid (numI_out c.rows dev ch (by rintro ⟨a, b, e1, e2, e3, _⟩; omega))
    go_enter Try.func18, Try.ntmps18
    go_wp2
    go_ret
    exact ⟨by rw [HO.out]; rfl, by go_grown⟩
  by_cases h3 : ch < 0
  · have HO := Lib.hid (numI_out c.rows dev ch (by rintro ⟨a, b, e1, e2, _⟩; omega))
    go_enter Try.func18, Try.ntmps18
    go_wp2
    go_ret
    exact ⟨by rw [HO.out]; rfl, by go_grown⟩
  obtain ⟨d, rfl⟩ := Int.eq_ofNat_of_zero_le (show 0 ≤ dev by omega)
  obtain ⟨g, rfl⟩ := Int.eq_ofNat_of_zero_le (show 0 ≤ ch by omega)
  have hd : d < c.rows.length := by omega
  obtain ⟨x, hx⟩ : ∃ x, c.rows[d]? = some x := ⟨_, List.getElem?_eq_getElem hd⟩
  obtain ⟨ad, B, dd, rfl, _, c0, hxl, _⟩ := HC.out d x hx
  have hla := lenAt_some hx
  have g1 : decide ((d : Int) < 0) = false := decide_eq_false (by omega)
  have g2 : decide ((d : Int) ≥ (c.rows.length : Int)) = false := decide_eq_false (by omega)
  have g3 : decide ((g : Int) < 0) = false := decide_eq_false (by omega)
  clear h1 h2 h3
  by_cases h4 : g ≥ x.length
  · have g4 : decide ((g : Int) ≥ (x.length : Int)) = true := decide_eq_true (by omega)
    have HO := Lib.hid (numI_out c.rows (d : Int) (g : Int) (by rintro ⟨a, b, e1, e2, _, e4⟩; have e5 : a = d := (by omega); subst e5; rw [hla] at e4; omega))
    clear hla hx
    go_enter Try.func18, Try.ntmps18
    go_wp2
    go_ret
    exact ⟨by rw [HO.out]; rfl, by go_grown⟩
  have g4 : decide ((g : Int) ≥ (x.length : Int)) = false := decide_eq_false (by omega)
  have HO := Lib.hid (numI_in c.rows d g hd (by rw [hla]; omega))
  have hgl : g ≤ 1000000 := by have := came_le c.rows d hd g (by rw [hla]; omega); omega
  have HLE : Hid (∀ k, k ≤ d → (came c.rows k 0).length ≤ 1000000) := Lib.hid (fun k hk => by have := came_le c.rows k (by omega) 0 (Nat.zero_le _); omega)
  clear hla hx
  go_enter Try.func18, Try.ntmps18
  go_wp2_with fail
  go_loop [7, 8] (fun n i => ∃ k : Nat, k ≤ d ∧ i = .int .i64 k ∧ n = .int .i64 (((came c.rows k 0).length + g : Nat) : Int)) (fun _ i => d - (intOf i).toNat)
  case atStart => exact ⟨0, Nat.zero_le _, rfl, by simp [came_zero]⟩
  case round =>
    obtain ⟨k, hk, rfl, rfl⟩ := hrel
    by_cases hlt : k < d
    · obtain ⟨y, hy⟩ : ∃ y, c.rows[k]? = some y := ⟨_, List.getElem?_eq_getElem (by omega)⟩
      obtain ⟨ad', B', d', e0, _, cy, _, _⟩ := HC.out k y hy
      injection e0 with e0
      subst e0
      have HL := Lib.hid (show (came c.rows (k + 1) 0).length = (came c.rows k 0).length + y.length by rw [came_len_next, lenAt_some hy])
      have hle := HLE.out (k + 1) (by omega)
      rw [HL.out] at hle
      have hkr : (k : Int) < (c.rows.length : Int) := by omega
      clear hy
      generalize (came c.rows k 0).length = m at *
      go_wp2
      go_round
      case rel => exact ⟨k + 1, by omega, by go_num, by rw [HL.out]; go_num⟩
      case measure => simp [intOf]; omega
    · have he : k = d := by omega
      subst he
      go_wp2
      go_ret
      exact ⟨by rw [HO.out]; rfl, by go_grown⟩
end Go.Proofs.Ytconekaplneejaa
