/- Layer 12: rows of what is done, as they come in. -/
import Derived.Test.YtpbhfhjnjmcgjaaRingO
import Derived.Deep.Fields
import Derived.ChangeSame
namespace Go.Proofs.Ytpbhfhjnjmcgjaa
open Go.ChangeShapes Go.WideShapes Go.ChangeAt Go.RowKit Go.Deep
set_option linter.unusedVariables false
set_option linter.unusedSimpArgs false

/-- The slice v reads as these: at, and a number. -/
def OpsRow (w : World) (v : Value) (l : List (Int × Int)) : Prop :=
  ∃ A c, v = .slice A l.length c ∧ l.length ≤ c ∧ c ≤ 9223372036854775807 ∧
    ∀ (i : Nat) (o : Int × Int), l[i]? = some o → ∃ ad, A = some ad ∧ ad.block < w.heap.size ∧ w.cell? (ad.add (i * 2)) = some (.int .i64 o.1) ∧ w.cell? (ad.add (i * 2 + 1)) = some (.int .i16 o.2) ∧
      (-9223372036854775808 ≤ o.1 ∧ o.1 ≤ 9223372036854775807) ∧ (-32768 ≤ o.2 ∧ o.2 ≤ 32767)

section
variable {H : Type} {enc : TypeId × Value → H} {w : World} {rch : Reach} {b0 : Nat}
theorem arg23_of_trod {v : Value} {d : DataW H} {p : List MemPlace} (hv : Value.okWide Try.prog w rch b0 23 v) (h : DataW.Trod enc Try.prog w 0 (fun _ => true) true 23 v d p) : ∃ l, OpsRow w v l := by
  obtain ⟨a0, len0, cap0, rfl⟩ := okWide_slice Try.underlying23 hv
  obtain ⟨fuel, hf⟩ := h
  have hce : Try.prog.cellsOf 32 = 2 := by kernel_rfl
  rcases open_slice Try.underlying23 hf with ⟨hcs, _⟩ | ⟨a, len, cap, m, n, D, Pl, hcs, _, hl, hm, hmm, _, hi⟩
  · simp [Value.cells] at hcs
    obtain ⟨rfl, rfl, rfl⟩ := hcs
    exact ⟨[], none, 0, rfl, Nat.le_refl _, by omega, fun i o h => by simp at h⟩
  · simp [Value.cells] at hcs
    obtain ⟨rfl, rfl, rfl⟩ := hcs
    have hlm : len0 ≤ m := by rw [hmm]; simp; omega
    rw [hce] at hi
    have hX : ∀ i, i < len0 → ∃ o : Int × Int, w.cell? (a.add (i * 2)) = some (.int .i64 o.1) ∧ w.cell? (a.add (i * 2 + 1)) = some (.int .i16 o.2) ∧ (-9223372036854775808 ≤ o.1 ∧ o.1 ≤ 9223372036854775807) ∧ (-32768 ≤ o.2 ∧ o.2 ≤ 32767) := by
      intro i hil
      obtain ⟨cs', hc1, hc2⟩ := hi i (by omega)
      obtain ⟨hb, hlen, hcell⟩ := World.cells?_some hc1
      obtain ⟨y0, y1, n', _, hlc, t0, t1⟩ := trod_struct2 Try.underlying32 hc2
      obtain ⟨u0, u1, rfl⟩ : ∃ u0 u1, cs' = [u0, u1] := by
        match cs', hlen with
        | [u0, u1], _ => exact ⟨u0, u1, rfl⟩
      have e0 : ([u0, u1].drop 0).take 1 = [u0] := rfl
      have e1 : ([u0, u1].drop 1).take 1 = [u1] := rfl
      have t0' : DataW.trod enc Try.prog w 0 (fun _ => true) true n' 3 [u0] = some y0 := t0
      have t1' : DataW.trod enc Try.prog w 0 (fun _ => true) true n' 30 [u1] = some y1 := t1
      obtain ⟨p0, q0, _, w0⟩ := DataW.trod_int Try.underlying3 t0'
      obtain ⟨p1, q1, _, w1⟩ := DataW.trod_int Try.underlying30 t1'
      simp at q0 q1
      subst q0 q1
      have c0 := hcell 0 (by omega)
      have c1 := hcell 1 (by omega)
      rw [add_add] at c0 c1
      exact ⟨(p0, p1), by simpa using c0, by simpa using c1, bounds_i64 w0, bounds_i16 w1⟩
    obtain ⟨f, hF⟩ := choose_lt hX
    have hbl : 0 < len0 → a.block < w.heap.size := fun h0 => by
      have := lt_of_cell (hF 0 h0).1
      rwa [block_add] at this
    refine ⟨(List.range len0).map f, some a, cap0, by simp, by simpa using hl, hm, fun i o ho => ?_⟩
    have hil : i < len0 := by
      have := (List.getElem?_eq_some_iff.1 ho).1
      simpa using this
    rw [List.getElem?_map, List.getElem?_range hil] at ho
    have ho' : f i = o := by simpa using ho
    subst ho'
    have := hF i hil
    exact ⟨a, rfl, hbl (by omega), this.1, this.2.1, this.2.2.1, this.2.2.2⟩
end
def wit23 : Value := .slice none 0 0

def farB (a : Int) : Bool := decide (a ≥ -576460752303423488) && decide (a ≤ 576460752303423488)
theorem far_any (a : Int) (w : World) :
    Calls Try.prog 12 #[.int .i64 a] w fun e w' => e = .returned (.bool (decide (-576460752303423488 ≤ a ∧ a ≤ 576460752303423488))) ∧ w = w' := by
  by_cases h1 : -576460752303423488 ≤ a
  · by_cases h2 : a ≤ 576460752303423488
    · have f0 : decide (-576460752303423488 ≤ a ∧ a ≤ 576460752303423488) = true := decide_eq_true ⟨h1, h2⟩
      have f1 : decide (a ≥ -576460752303423488) = true := decide_eq_true h1
      have f2 : decide (a ≤ 576460752303423488) = true := decide_eq_true h2
      rw [f0]
      clear f0
      go_enter Try.func12, Try.ntmps12
      go_wp2
      go_ret
      exact ⟨by first | rfl | simp [f1, f2], rfl⟩
    · have f0 : decide (-576460752303423488 ≤ a ∧ a ≤ 576460752303423488) = false := decide_eq_false fun h => h2 h.2
      have f1 : decide (a ≥ -576460752303423488) = true := decide_eq_true h1
      have f2 : decide (a ≤ 576460752303423488) = false := decide_eq_false h2
      rw [f0]
      clear f0
      go_enter Try.func12, Try.ntmps12
      go_wp2
      go_ret
      exact ⟨by first | rfl | simp [f1, f2], rfl⟩
  · have f0 : decide (-576460752303423488 ≤ a ∧ a ≤ 576460752303423488) = false := decide_eq_false fun h => h1 h.1
    have f1 : decide (a ≥ -576460752303423488) = false := decide_eq_false h1
    rw [f0]
    clear f0
    go_enter Try.func12, Try.ntmps12
    go_wp2
    go_ret
    exact ⟨by first | rfl | simp [f1], rfl⟩
end Go.Proofs.Ytpbhfhjnjmcgjaa
