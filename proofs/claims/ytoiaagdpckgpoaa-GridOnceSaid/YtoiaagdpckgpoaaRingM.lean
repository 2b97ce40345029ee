/- Layer 12: rings, the mathematics, and words for memory. -/
import Derived.Test.YtoiaagdpckgpoaaMemC
import Derived.Test.YtoiaagdpckgpoaaReg
import Derived.Laws.CopyOwn
namespace Go.Proofs.Ytoiaagdpckgpoaa
open Go.ChangeShapes Go.WideShapes Go.ChangeAt Go.RowKit
set_option linter.unusedVariables false
set_option linter.unusedSimpArgs false

section
variable {α : Type}
def flat (enc : α → Value) (cs : List (α × Bool)) : List Value := cs.flatMap fun a => [enc a.1, .bool a.2]
theorem flat_len (enc : α → Value) (cs : List (α × Bool)) : (flat enc cs).length = cs.length * 2 := by
  induction cs with
  | nil => rfl
  | cons a l ih => simp [flat] at ih ⊢; omega
theorem flat_at (enc : α → Value) (l : List (α × Bool)) (i : Nat) (a : α × Bool) (h : l[i]? = some a) : (flat enc l)[i * 2]? = some (enc a.1) ∧ (flat enc l)[i * 2 + 1]? = some (.bool a.2) := by
  induction l generalizing i with
  | nil => simp at h
  | cons b l ih =>
    cases i with
    | zero =>
      simp at h
      subst h
      exact ⟨rfl, rfl⟩
    | succ i =>
      have h' : l[i]? = some a := by simpa using h
      have := ih i h'
      have e1 : (i + 1) * 2 = i * 2 + 2 := by omega
      rw [e1]
      exact this
theorem flat_set (enc : α → Value) (l : List (α × Bool)) (i : Nat) (x : α) (b : Bool) : ((flat enc l).set (i * 2) (enc x)).set (i * 2 + 1) (.bool b) = flat enc (l.set i (x, b)) := by
  induction l generalizing i with
  | nil => rfl
  | cons a l ih =>
    cases i with
    | zero => rfl
    | succ i =>
      have e1 : (i + 1) * 2 = i * 2 + 1 + 1 := by omega
      have := ih i
      rw [e1]
      show (enc a.1 :: .bool a.2 :: ((flat enc l).set (i * 2) (enc x)).set (i * 2 + 1) (.bool b)) = _
      rw [this]
      rfl

def Rel (from_ k : Nat) (cs q : List (α × Bool)) : Prop := cs.length = k ∧ q.length = k ∧ ∀ p, p < k → cs[(from_ + p) % k]? = q[p]?

theorem mod_inj {k a b : Nat} (h : a % k = b % k) (h1 : a ≤ b) (h2 : b < a + k) : a = b := by
  have ea := Nat.div_add_mod a k
  have eb := Nat.div_add_mod b k
  rcases Nat.lt_or_ge (a / k) (b / k) with hlt | hge
  · have h3 : k * (a / k + 1) ≤ k * (b / k) := Nat.mul_le_mul_left k hlt
    rw [Nat.mul_add, Nat.mul_one] at h3
    omega
  · have h3 : k * (b / k) ≤ k * (a / k) := Nat.mul_le_mul_left k hge
    omega

theorem Rel.get {from_ k : Nat} {cs q : List (α × Bool)} (h : Rel from_ k cs q) {n : Nat} (h1 : from_ ≤ n) (h2 : n < from_ + k) : cs[n % k]? = q[n - from_]? := by
  have := h.2.2 (n - from_) (by omega)
  rwa [show from_ + (n - from_) = n by omega] at this

theorem Rel.set {from_ k : Nat} {cs q : List (α × Bool)} (h : Rel from_ k cs q) {n : Nat} (h1 : from_ ≤ n) (h2 : n < from_ + k) (x : α × Bool) : Rel from_ k (cs.set (n % k) x) (q.set (n - from_) x) := by
  obtain ⟨hc, hq, hr⟩ := h
  have hk : 0 < k := by omega
  have hm : n % k < k := Nat.mod_lt _ hk
  refine ⟨by simpa using hc, by simpa using hq, fun p hp => ?_⟩
  by_cases he : p = n - from_
  · subst he
    rw [show from_ + (n - from_) = n by omega, List.getElem?_set_self (by omega), List.getElem?_set_self (by omega)]
  · have hne : n % k ≠ (from_ + p) % k := by
      intro hm2
      rcases Nat.le_total n (from_ + p) with hle | hle
      · have := mod_inj hm2 hle (by omega); omega
      · have := mod_inj hm2.symm hle (by omega); omega
    rw [List.getElem?_set_ne hne, List.getElem?_set_ne (by omega)]
    exact hr p hp

theorem Rel.take {from_ k : Nat} {cs q : List (α × Bool)} (h : Rel from_ k cs q) (hk : 0 < k) (x : α × Bool) : Rel (from_ + 1) k (cs.set (from_ % k) x) (q.tail ++ [x]) := by
  obtain ⟨hc, hq, hr⟩ := h
  have hm : from_ % k < k := Nat.mod_lt _ hk
  refine ⟨by simpa using hc, by simp; omega, fun p hp => ?_⟩
  by_cases he : p = k - 1
  · subst he
    rw [show from_ + 1 + (k - 1) = from_ + k by omega, Nat.add_mod_right, List.getElem?_set_self (by omega), List.getElem?_append_right (by simp; omega)]
    simp [hq]
  · have hne : from_ % k ≠ (from_ + 1 + p) % k := by
      intro hm2
      have := mod_inj hm2 (by omega) (by omega)
      omega
    rw [List.getElem?_set_ne hne, List.getElem?_append_left (by simp; omega), List.getElem?_tail, show from_ + 1 + p = from_ + (p + 1) by omega]
    exact hr (p + 1) (by omega)

theorem Rel.new (from_ k : Nat) (x : α × Bool) (hk : 0 < k) : Rel from_ k (List.replicate k x) (List.replicate k x) := by
  refine ⟨by simp, by simp, fun p hp => ?_⟩
  rw [List.getElem?_replicate, List.getElem?_replicate, if_pos (Nat.mod_lt _ hk), if_pos hp]
end

/-- Nothing but the blocks of s has turned. -/
structure Only (s : List Nat) (w w' : World) : Prop where
  os : w'.os = w.os
  tape : w'.tape = w.tape
  output : w'.output = w.output
  size : w.heap.size ≤ w'.heap.size
  block : ∀ b, b < w.heap.size → b ∉ s → w'.heap[b]? = w.heap[b]?
theorem Only.refl (s : List Nat) (w : World) : Only s w w := ⟨rfl, rfl, rfl, Nat.le_refl _, fun _ _ _ => rfl⟩
theorem Only.trans {s : List Nat} {a b c : World} (h : Only s a b) (k : Only s b c) : Only s a c :=
  ⟨k.os.trans h.os, k.tape.trans h.tape, k.output.trans h.output, Nat.le_trans h.size k.size, fun i hi hg => (k.block i (Nat.lt_of_lt_of_le hi h.size) hg).trans (h.block i hi hg)⟩
theorem Only.of_below (s : List Nat) {a b : World} (h : Below a.heap.size a b) : Only s a b := ⟨h.os, h.tape, h.output, h.size, fun i hi _ => h.block i hi⟩
theorem Only.drew {s : List Nat} {a b : World} (h : Only s a b) (n : Nat) : Only s a (b.drewN n) := ⟨h.os, h.tape, h.output, h.size, h.block⟩
theorem Only.below {s : List Nat} {B : Nat} {a b c : World} (h : Below B a b) (hB : B ≤ b.heap.size) (k : Only s b c) (hs : ∀ x ∈ s, B ≤ x) : Below B a c :=
  h.trans ⟨k.os, k.tape, k.output, k.size, fun i hi => k.block i (by omega) (fun hm => by have := hs i hm; omega)⟩
theorem Only.setCell {s : List Nat} {a b : World} (h : Only s a b) {p : Addr} (hp : p.block ∈ s) (u : Value) : Only s a (b.setCell p u) :=
  h.trans ⟨rfl, rfl, rfl, by simp [World.setCell], fun i hi hn => Below.heap_setCell _ _ _ _ (fun e => hn (e ▸ hp))⟩
theorem Blk.only {w w' : World} {s : List Nat} {b : Nat} {t : TypeId} {cs : Array Value} (h : Blk w b t cs) (k : Only s w w') (hne : b ∉ s) : Blk w' b t cs := (k.block b h.lt hne).trans h

theorem run_clear_two {P : Program} (w : World) (t e ty : TypeId) (z : Value) (ht : P.underlying t = some (.slice e)) (x y : Value) (hv : ∀ w, (zeroValue e).run P w = .ok z w) (hz : z.cells = #[x, y]) (h1 : x.oneCell' = true) (h2 : y.oneCell' = true) (b o c : Nat)
    (hc : ∀ j, j < 2 → (w.cell? ⟨b, o + j, none⟩).isSome = true) (hf : ∀ j, j < 2 → w.frozen? ⟨b, o + j, none⟩ = false) :
    (Builtin.clear_ #[t] ty #[.slice (some ⟨b, o, none⟩) 1 c]).run P w = .ok (.tuple #[]) ((w.setCell ⟨b, o, none⟩ x).setCell ⟨b, o + 1, none⟩ y) := by
  have hzc : (Builtin.zeroCells z.cells 1).toList = [x, y] := by
    rw [hz]
    simp [Builtin.zeroCells]
    rfl
  have hst := run_storeCells_cells (P := P) b o [x, y] 0 w (by simpa using hc) (by simpa using hf) (by intro v hv'; simp at hv'; rcases hv' with rfl | rfl <;> assumption)
  simp only [Nat.add_zero] at hst
  simp [Builtin.clear_, run_underlying ht, hv, hzc, hst]
  rfl
end Go.Proofs.Ytoiaagdpckgpoaa
