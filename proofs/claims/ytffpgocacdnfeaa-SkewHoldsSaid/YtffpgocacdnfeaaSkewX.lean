/- Layer 10: the law of what holds: rows of what was seen; the mathematics. -/
import Derived.Test.YtffpgocacdnfeaaSkewM
import Derived.Test.YtffpgocacdnfeaaMemS
import Derived.Test.YtffpgocacdnfeaaRegS
import Derived.Deep.Slices
import Derived.Deep.Fields
namespace Go.Proofs.Ytffpgocacdnfeaa
open Go.ChangeShapes Go.WideShapes Go.ChangeAt Go.RowKit Go.Deep
set_option linter.unusedVariables false
set_option linter.unusedSimpArgs false

/-- The slice v reads as these: when, how far off, how late. -/
def SeenRow (w : World) (v : Value) (l : List (Int × Int × Int)) : Prop :=
  ∃ A c, v = .slice A l.length c ∧ l.length ≤ c ∧ c ≤ 9223372036854775807 ∧
    ∀ (i : Nat) (o : Int × Int × Int), l[i]? = some o → ∃ ad, A = some ad ∧ ad.block < w.heap.size ∧ w.cell? (ad.add (i * 3)) = some (.int .u16 o.1) ∧ w.cell? (ad.add (i * 3 + 1)) = some (.int .i8 o.2.1) ∧ w.cell? (ad.add (i * 3 + 2)) = some (.int .u8 o.2.2) ∧
      (0 ≤ o.1 ∧ o.1 ≤ 65535) ∧ (-128 ≤ o.2.1 ∧ o.2.1 ≤ 127) ∧ (0 ≤ o.2.2 ∧ o.2.2 ≤ 255)
section
variable {H : Type} {enc : TypeId × Value → H} {w : World} {rch : Reach} {b0 : Nat}
theorem arg26_of_trod {v : Value} {d : DataW H} {p : List MemPlace} (hv : Value.okWide Try.prog w rch b0 26 v) (h : DataW.Trod enc Try.prog w 0 (fun _ => true) true 26 v d p) : ∃ l, SeenRow w v l := by
  obtain ⟨a0, len0, cap0, rfl⟩ := okWide_slice Try.underlying26 hv
  obtain ⟨fuel, hf⟩ := h
  have hce : Try.prog.cellsOf 34 = 3 := by kernel_rfl
  rcases open_slice Try.underlying26 hf with ⟨hcs, _⟩ | ⟨a, len, cap, m, n, D, Pl, hcs, _, hl, hm, hmm, _, hi⟩
  · simp [Value.cells] at hcs
    obtain ⟨rfl, rfl, rfl⟩ := hcs
    exact ⟨[], none, 0, rfl, Nat.le_refl _, by omega, fun i o h => by simp at h⟩
  · simp [Value.cells] at hcs
    obtain ⟨rfl, rfl, rfl⟩ := hcs
    have hlm : len0 ≤ m := by rw [hmm]; simp; omega
    rw [hce] at hi
    have hX : ∀ i, i < len0 → ∃ o : Int × Int × Int, w.cell? (a.add (i * 3)) = some (.int .u16 o.1) ∧ w.cell? (a.add (i * 3 + 1)) = some (.int .i8 o.2.1) ∧ w.cell? (a.add (i * 3 + 2)) = some (.int .u8 o.2.2) ∧ (0 ≤ o.1 ∧ o.1 ≤ 65535) ∧ (-128 ≤ o.2.1 ∧ o.2.1 ≤ 127) ∧ (0 ≤ o.2.2 ∧ o.2.2 ≤ 255) := by
      intro i hil
      obtain ⟨cs', hc1, hc2⟩ := hi i (by omega)
      obtain ⟨hb, hlen, hcell⟩ := World.cells?_some hc1
      obtain ⟨xs, n', _, _, hlc, hlx, hfl⟩ := DataW.trod_struct Try.underlying34 hc2
      obtain ⟨u0, u1, u2, rfl⟩ : ∃ u0 u1 u2, cs' = [u0, u1, u2] := by
        match cs', hlen with
        | [u0, u1, u2], _ => exact ⟨u0, u1, u2, rfl⟩
      obtain ⟨y0, y1, y2, rfl⟩ : ∃ y0 y1 y2, xs = [y0, y1, y2] := by
        match xs, hlx with
        | [y0, y1, y2], _ => exact ⟨y0, y1, y2, rfl⟩
      have t0' : DataW.trod enc Try.prog w 0 (fun _ => true) true n' 27 [u0] = some y0 := hfl 0 _ rfl
      have t1' : DataW.trod enc Try.prog w 0 (fun _ => true) true n' 32 [u1] = some y1 := hfl 1 _ rfl
      have t2' : DataW.trod enc Try.prog w 0 (fun _ => true) true n' 5 [u2] = some y2 := hfl 2 _ rfl
      obtain ⟨p0, q0, _, w0⟩ := DataW.trod_int Try.underlying27 t0'
      obtain ⟨p1, q1, _, w1⟩ := DataW.trod_int Try.underlying32 t1'
      obtain ⟨p2, q2, _, w2⟩ := DataW.trod_int Try.underlying5 t2'
      simp at q0 q1 q2
      subst q0 q1 q2
      have c0 := hcell 0 (by omega)
      have c1 := hcell 1 (by omega)
      have c2 := hcell 2 (by omega)
      rw [add_add] at c0 c1 c2
      exact ⟨(p0, p1, p2), by simpa using c0, by simpa using c1, by simpa using c2, bounds_u16 w0, bounds_i8 w1, bounds_u8 w2⟩
    obtain ⟨f, hF⟩ := choose_lt hX
    have hbl : 0 < len0 → a.block < w.heap.size := fun h0 => by
      have := lt_of_cell (hF 0 h0).1
      rwa [block_add] at this
    refine ⟨(List.range len0).map f, some a, cap0, by simp, by simpa using hl, hm, fun i o ho => ?_⟩
    have hil : i < len0 := by
      have := (List.getElem?_eq_some_iff.1 ho).1
      simpa using this
    rw [List.getElem?_map, List.getElem?_range hil] at ho
    have ho' : f i = o := by simpa using ho
    subst ho'
    have h9 := hF i hil
    exact ⟨a, rfl, hbl (by omega), h9.1, h9.2.1, h9.2.2.1, h9.2.2.2.1, h9.2.2.2.2.1, h9.2.2.2.2.2⟩
end
def wit26 : Value := .slice none 0 0

theorem ce_mul (a b : Int) (hb : 1 ≤ b) : a ≤ ce a b * b ∧ ce a b * b ≤ a + b - 1 := by
  have h := Int.mul_ediv_add_emod (-a) b
  have h3 := Int.emod_nonneg (-a) (b := b) (by omega)
  have h4 := Int.emod_lt_of_pos (-a) (b := b) (by omega)
  have e : ce a b * b = -(b * ((-a) / b)) := by unfold ce; rw [Int.neg_mul, Int.mul_comm]
  omega
theorem ce_small (a b : Int) (hb : 1 ≤ b) (h0 : 0 ≤ a) (h1 : a ≤ 1000000) : 0 ≤ ce a b ∧ ce a b ≤ 1073741824 := by
  have h := ce_mul a b hb
  generalize ce a b = t at *
  constructor
  · rcases (by omega : 0 ≤ t ∨ t ≤ -1) with h2 | h2
    · exact h2
    · have := Int.mul_le_mul_of_nonneg_right h2 (show 0 ≤ b by omega)
      omega
  · rcases (by omega : t ≤ 1073741824 ∨ 1 ≤ t - 1 ∧ 1073741824 < t) with h2 | h2
    · exact h2
    · have h5 := Int.mul_le_mul_of_nonneg_left hb (show 0 ≤ t - 1 by omega)
      have h6 : (t - 1) * b = t * b - b := by rw [Int.sub_mul, Int.one_mul]
      rw [Int.mul_one, h6] at h5
      omega
theorem hold_told (c : Cf) (e off d : Int) (hP : 1 ≤ c.P) (hd : 0 ≤ d ∧ d ≤ c.Mx - c.Mn) : toldLo c e (ce (e + off + c.Mn + d) c.P) ≤ off ∧ off ≤ toldHi c e (ce (e + off + c.Mn + d) c.P) := by
  have h := ce_mul (e + off + c.Mn + d) c.P hP
  unfold toldLo toldHi
  rw [Int.sub_mul, Int.one_mul]
  omega
theorem hold_look (c : Cf) (on : Bool) (a lo hi e t off offp : Int) (ht : toldLo c e t ≤ off ∧ off ≤ toldHi c e t) (hs : on = true → lo ≤ offp ∧ offp ≤ hi ∧ off - offp ≤ drf c.Rho (e - a) ∧ offp - off ≤ drf c.Rho (e - a)) :
    lookO c on a lo hi e t = true ∧ lookLo c on a lo hi e t ≤ off ∧ off ≤ lookHi c on a lo hi e t ∧ toldLo c e t ≤ lookLo c on a lo hi e t ∧ lookHi c on a lo hi e t ≤ toldHi c e t := by
  cases on
  · have e1 : lookLo c false a lo hi e t = toldLo c e t := by unfold lookLo; rw [if_neg (by simp)]
    have e2 : lookHi c false a lo hi e t = toldHi c e t := by unfold lookHi; rw [if_neg (by simp)]
    rw [e1, e2]
    exact ⟨rfl, ht.1, ht.2, Int.le_refl _, Int.le_refl _⟩
  · obtain ⟨h1, h2, h3, h4⟩ := hs rfl
    have ho : lookO c true a lo hi e t = true := by
      unfold lookO
      simp only [Bool.not_true, Bool.false_or, decide_eq_true_eq]
      omega
    have e1 : lookLo c true a lo hi e t = max (lo - drf c.Rho (e - a)) (toldLo c e t) := by unfold lookLo; rw [if_pos ⟨rfl, ho⟩]
    have e2 : lookHi c true a lo hi e t = min (hi + drf c.Rho (e - a)) (toldHi c e t) := by unfold lookHi; rw [if_pos ⟨rfl, ho⟩]
    rw [e1, e2]
    exact ⟨ho, by omega, by omega, by omega, by omega⟩
end Go.Proofs.Ytffpgocacdnfeaa
