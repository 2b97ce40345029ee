/- Layer 6: the law of a row of numbers, walked. -/
import Derived.Test.YtgklhofnfglioaaSerial
namespace Go.Proofs.Ytgklhofnfglioaa
open Go.ChangeShapes Go.WideShapes Go.ChangeAt Go.RowKit
set_option linter.unusedVariables false
set_option linter.unusedSimpArgs false

theorem wf_i16 {z : Int} (h : (Lit.int .i16 z).wf = true) : -32768 ≤ z ∧ z ≤ 32767 := bounds_i16 h
/-- the greatest number behind a row -/
def tops (t : Int) (l : List Int) : Int := l.foldl (fun t x => max t (t + x)) t
theorem tops_snoc (t : Int) (l : List Int) (x : Int) : tops t (l ++ [x]) = max (tops t l) (tops t l + x) := by simp [tops]
theorem tops_bd (t : Int) (l : List Int) (h : ∀ x ∈ l, -32768 ≤ x ∧ x ≤ 32767) : t ≤ tops t l ∧ tops t l ≤ t + 32767 * l.length := by
  have key : ∀ r : List Int, (∀ x ∈ r, -32768 ≤ x ∧ x ≤ 32767) → t ≤ tops t r.reverse ∧ tops t r.reverse ≤ t + 32767 * r.length := by
    intro r
    induction r with
    | nil => intro _; simp [tops]
    | cons x r ih =>
      intro hr
      have h1 := ih fun y hy => hr y (by simp [hy])
      have h2 := hr x (by simp)
      rw [List.reverse_cons, tops_snoc, List.length_cons]
      omega
  have := key l.reverse (fun x hx => h x (by simpa using hx))
  simpa using this

set_option maxHeartbeats 1000000 in
theorem walk_SerialRow (v : Value) (zs : List Int) (w : World) (h0 : Ints .i16 w v zs) :
    Calls Try.prog 6 #[v] w fun e w' => e = .returned (.bool true) ∧ Below w.heap.size w w' := by
  obtain ⟨⟨A, c, rfl, hc, hm, hA⟩, hr⟩ := h0
  rw [List.length_map] at hc hA ⊢
  unfold maxLen at hm
  by_cases hbig : 500 < zs.length
  · clear hA
    go_enter Try.func6, Try.ntmps6
    go_wp2_with fail
    refine (head_any _).mono ?_
    rintro e w1 ⟨rfl, rfl⟩
    go_wp2
    go_ret
    exact ⟨rfl, Below.refl _ _⟩
  have hcell : ∀ k x, zs[k]? = some x → ∃ ad, A = some ad ∧ w.cell? (ad.add k) = some (.int .i16 x) := by
    intro k x hx
    rcases hA with ⟨_, h0⟩ | ⟨ad, h1, _, h3⟩
    · have : k < zs.length := by
        rcases Nat.lt_or_ge k zs.length with h | h
        · exact h
        · rw [List.getElem?_eq_none h] at hx; cases hx
      omega
    · exact ⟨ad, h1, h3 k _ (by rw [List.getElem?_map, hx]; rfl)⟩
  have HC := Lib.hid hcell
  have HR := Lib.hid (fun x hx => wf_i16 (hr x hx))
  clear hcell hr hA
  go_enter Try.func6, Try.ntmps6
  go_wp2_with fail
  refine (head_any _).mono ?_
  rintro e w1 ⟨rfl, rfl⟩
  go_wp2
  go_loop [4, 5, 6] (fun t g i => ∃ k : Nat, k ≤ zs.length ∧ i = .int .i64 k ∧ t = .int .i64 (tops 40000 (zs.take k)) ∧ g = .int .i64 (tops 40000 (zs.take k))) (fun _ _ i => zs.length - (intOf i).toNat)
  case atStart => exact ⟨0, Nat.zero_le _, rfl, rfl, rfl⟩
  case round =>
    obtain ⟨k, hk, rfl, rfl, rfl⟩ := hrel
    have hb := tops_bd 40000 (zs.take k) fun x hx => HR.out x (List.mem_of_mem_take hx)
    rw [List.length_take] at hb
    by_cases hlt : k < zs.length
    · obtain ⟨x, hx⟩ : ∃ x, zs[k]? = some x := ⟨_, List.getElem?_eq_getElem hlt⟩
      obtain ⟨ad, rfl, hcx⟩ := HC.out k x hx
      have hxr := HR.out x (List.mem_of_getElem? hx)
      have HE := Lib.hid (show tops 40000 (zs.take (k + 1)) = max (tops 40000 (zs.take k)) (tops 40000 (zs.take k) + x) by rw [List.take_add_one, hx]; exact tops_snoc _ _ _)
      clear hx
      generalize tops 40000 (zs.take k) = T at *
      have f1 : near T ((T + x) % 65536) = T + x := by unfold near; omega
      have f2 : nearO T ((T + x) % 65536) = true := by unfold nearO; rw [f1]; simp; omega
      have f3 : nearN T ((T + x) % 65536) = T + x := by unfold nearN; rw [f2, f1]; rfl
      clear f1
      go_wp2_with fail
      refine (low_any _ _ (by omega) (by omega)).mono ?_
      rintro e w2 ⟨rfl, rfl⟩
      go_wp2_with fail
      refine (unwrap_any _ _ _ (by omega) (by omega)).mono ?_
      rintro e w2 ⟨rfl, rfl⟩
      go_wp2
      all_goals
        go_round
        case rel => exact ⟨k + 1, by omega, by go_num, by rw [HE.out]; simp; split <;> omega, by rw [HE.out]; simp; split <;> omega⟩
        case measure => simp [intOf]; omega
    · go_wp2
      go_ret
      exact ⟨rfl, Below.refl _ _⟩
end Go.Proofs.Ytgklhofnfglioaa
