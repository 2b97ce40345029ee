/- Whether a setting is right, by the document. -/
import Derived.Test.YtcdmojimdiiepaaConf
namespace Go.Proofs.Ytcdmojimdiiepaa
open Go.ChangeShapes Go.WideShapes Go.ChangeAt Go.RowKit Go.Deep
set_option linter.unusedVariables false
set_option linter.unusedSimpArgs false

/-- is a setting right? -/
def confO (c : Cf) : Bool :=
  decide (1 ≤ c.P ∧ c.P ≤ 1000000 ∧ 1 ≤ c.H ∧ c.H ≤ 32 ∧ c.H < c.C ∧ c.C ≤ 64) && decide (0 ≤ c.Mn ∧ c.Mn ≤ c.Mx ∧ c.Mx ≤ 1000000000 ∧ 0 ≤ c.Rho ∧ c.Rho ≤ 100000 ∧ 0 ≤ c.Bd ∧ c.Bd ≤ 1000000000) &&
  decide (1 ≤ c.Win ∧ c.Win ≤ 1000 ∧ 1 ≤ c.St ∧ c.St ≤ 1000 ∧ 1 ≤ c.rows.length ∧ c.rows.length ≤ 4) && c.rows.all fun r => decide (1 ≤ r.length ∧ r.length ≤ 4) && r.all fun x => decide (1 ≤ x ∧ x ≤ 1000000)

theorem confP {c : Cf} (h : confO c = true) : (1 ≤ c.P ∧ c.P ≤ 1000000 ∧ 1 ≤ c.H ∧ c.H ≤ 32 ∧ c.H < c.C ∧ c.C ≤ 64) ∧ (0 ≤ c.Mn ∧ c.Mn ≤ c.Mx ∧ c.Mx ≤ 1000000000 ∧ 0 ≤ c.Rho ∧ c.Rho ≤ 100000 ∧ 0 ≤ c.Bd ∧ c.Bd ≤ 1000000000) ∧
    (1 ≤ c.Win ∧ c.Win ≤ 1000 ∧ 1 ≤ c.St ∧ c.St ≤ 1000 ∧ 1 ≤ c.rows.length ∧ c.rows.length ≤ 4) ∧ ∀ r ∈ c.rows, (1 ≤ r.length ∧ r.length ≤ 4) ∧ ∀ x ∈ r, 1 ≤ x ∧ x ≤ 1000000 := by
  unfold confO at h
  simp only [Bool.and_eq_true, decide_eq_true_eq, List.all_eq_true] at h
  exact ⟨h.1.1.1, h.1.1.2, h.1.2, h.2⟩
theorem confM {c : Cf} (h1 : 1 ≤ c.P ∧ c.P ≤ 1000000 ∧ 1 ≤ c.H ∧ c.H ≤ 32 ∧ c.H < c.C ∧ c.C ≤ 64) (h2 : 0 ≤ c.Mn ∧ c.Mn ≤ c.Mx ∧ c.Mx ≤ 1000000000 ∧ 0 ≤ c.Rho ∧ c.Rho ≤ 100000 ∧ 0 ≤ c.Bd ∧ c.Bd ≤ 1000000000)
    (h3 : 1 ≤ c.Win ∧ c.Win ≤ 1000 ∧ 1 ≤ c.St ∧ c.St ≤ 1000 ∧ 1 ≤ c.rows.length ∧ c.rows.length ≤ 4) (h4 : ∀ r ∈ c.rows, (1 ≤ r.length ∧ r.length ≤ 4) ∧ ∀ x ∈ r, 1 ≤ x ∧ x ≤ 1000000) : confO c = true := by
  unfold confO
  simp only [Bool.and_eq_true, decide_eq_true_eq, List.all_eq_true]
  exact ⟨⟨⟨h1, h2⟩, h3⟩, h4⟩

set_option maxRecDepth 100000 in
set_option maxHeartbeats 4000000 in
theorem rright_any (v : Value) (c : Cf) (w : World) (h : IsConf w v c) :
    Calls Try.prog 33 #[v] w fun e w' => e = .returned (.bool (confO c)) ∧ Below w.heap.size w w' := by
  obtain ⟨s, r, rfl, vs, hv, hlen, hrow⟩ := h
  obtain ⟨A, cp, rfl, hc, hm⟩ := hv.shape
  rw [hlen] at hc hv ⊢
  unfold maxLen at hm
  have hcell : ∀ k r, c.rows[k]? = some r → ∃ ad B d, A = some ad ∧ r.length ≤ maxLen ∧ (∀ o, (w.alloc o).cell? (ad.add k) = some (.slice B r.length d)) ∧ ∀ j x, r[j]? = some x → ∃ bd, B = some bd ∧ ∀ o, (w.alloc o).cell? (bd.add j) = some (.int .i64 x) := by
    intro k r hr
    obtain ⟨u, hu, hr2⟩ := hrow k r hr
    obtain ⟨ad, d, e1, _, e2⟩ := hv.at_new hu
    obtain ⟨B, d', e3, h5, h6⟩ := hr2.shape
    injection e1 with e1
    refine ⟨ad, B, d', e1, by rw [List.length_map] at h5; omega, fun o => ?_, fun j x hx => ?_⟩
    · rw [e2 o, e3, List.length_map]
    · obtain ⟨bd, d2, e5, _, e6⟩ := hr2.at_new (k := j) (x := .int .i64 x) (by rw [List.getElem?_map, hx]; rfl)
      rw [e3] at e5
      injection e5 with e5
      exact ⟨bd, e5, e6⟩
  have HC := Lib.hid hcell
  have HP := Lib.hid (@confP c)
  have HM := Lib.hid (@confM c)
  clear hcell hrow hv hlen
  obtain ⟨P, H, C, Mn, Mx, Rho, Bd, Win, St, rows⟩ := c
  generalize confO ⟨P, H, C, Mn, Mx, Rho, Bd, Win, St, rows⟩ = ok at *
  go_enter Try.func33, Try.ntmps33
  go_wp2
  all_goals
    first
    | (go_ret
       refine ⟨ret_bool (Eq.symm (Bool.eq_false_iff.2 fun hc => ?_)), by go_grown⟩
       have hp := HP.out hc
       try dsimp only at hp
       omega)
    | skip
  go_loop [3] (fun i => ∃ k : Nat, k ≤ rows.length ∧ i = .int .i64 k ∧ ∀ r ∈ rows.take k, (1 ≤ r.length ∧ r.length ≤ 4) ∧ ∀ x ∈ r, 1 ≤ x ∧ x ≤ 1000000) (fun i => rows.length - (intOf i).toNat)
  case atStart => exact ⟨0, Nat.zero_le _, rfl, by simp⟩
  case round =>
    obtain ⟨k, hk, rfl, hno⟩ := hrel
    have HNO := Lib.hid hno
    clear hno
    by_cases hlt : k < rows.length
    · obtain ⟨x, hx⟩ : ∃ x, rows[k]? = some x := ⟨_, List.getElem?_eq_getElem hlt⟩
      obtain ⟨ad, B, d, rfl, hml, hcx, hin⟩ := HC.out k x hx
      unfold maxLen at hml
      have HX := Lib.hid hx
      have HI := Lib.hid hin
      clear hx hin
      by_cases hg1 : x.length < 1
      · go_wp2
        go_ret
        refine ⟨ret_bool (Eq.symm (Bool.eq_false_iff.2 fun hc => ?_)), by go_grown⟩
        have hp := (HP.out hc).2.2.2 x (List.mem_of_getElem? HX.out)
        omega
      by_cases hg2 : 4 < x.length
      · go_wp2
        go_ret
        refine ⟨ret_bool (Eq.symm (Bool.eq_false_iff.2 fun hc => ?_)), by go_grown⟩
        have hp := (HP.out hc).2.2.2 x (List.mem_of_getElem? HX.out)
        omega
      go_wp2
      go_loop [4] (fun j => ∃ m : Nat, m ≤ x.length ∧ j = .int .i64 m ∧ ∀ z ∈ x.take m, 1 ≤ z ∧ z ≤ 1000000) (fun j => x.length - (intOf j).toNat)
      case atStart => exact ⟨0, Nat.zero_le _, rfl, by simp⟩
      case round =>
        obtain ⟨m, hm2, rfl, hz⟩ := hrel
        have HZ := Lib.hid hz
        clear hz
        by_cases hlt2 : m < x.length
        · obtain ⟨z, hz⟩ : ∃ z, x[m]? = some z := ⟨_, List.getElem?_eq_getElem hlt2⟩
          obtain ⟨bd, rfl, hcz⟩ := HI.out m z hz
          have HZM := Lib.hid hz
          clear hz
          by_cases hz1 : z < 1
          · go_wp2
            go_ret
            refine ⟨ret_bool (Eq.symm (Bool.eq_false_iff.2 fun hc => ?_)), by go_grown⟩
            have hp := ((HP.out hc).2.2.2 x (List.mem_of_getElem? HX.out)).2 z (List.mem_of_getElem? HZM.out)
            omega
          by_cases hz2 : 1000000 < z
          · go_wp2
            go_ret
            refine ⟨ret_bool (Eq.symm (Bool.eq_false_iff.2 fun hc => ?_)), by go_grown⟩
            have hp := ((HP.out hc).2.2.2 x (List.mem_of_getElem? HX.out)).2 z (List.mem_of_getElem? HZM.out)
            omega
          go_wp2
          go_round
          case rel =>
            refine ⟨m + 1, by omega, by go_num, fun r hr => ?_⟩
            rw [List.take_add_one, HZM.out, List.mem_append] at hr
            rcases hr with hr | hr
            · exact HZ.out r hr
            · simp at hr; omega
          case measure => simp [intOf]; omega
        · have : m = x.length := by omega
          subst this
          go_wp2
          go_round
          case rel =>
            refine ⟨k + 1, by omega, by go_num, fun r hr => ?_⟩
            rw [List.take_add_one, HX.out, List.mem_append] at hr
            rcases hr with hr | hr
            · exact HNO.out r hr
            · simp at hr
              rw [hr]
              have hz := HZ.out
              rw [List.take_length] at hz
              exact ⟨by omega, hz⟩
          case measure => simp [intOf]; omega
    · have : k = rows.length := by omega
      subst this
      go_wp2
      go_ret
      have hno := HNO.out
      rw [List.take_length] at hno
      refine ⟨ret_bool (Eq.symm (HM.out ?_ ?_ ?_ hno)), by go_grown⟩
      all_goals (try dsimp only); omega
end Go.Proofs.Ytcdmojimdiiepaa
