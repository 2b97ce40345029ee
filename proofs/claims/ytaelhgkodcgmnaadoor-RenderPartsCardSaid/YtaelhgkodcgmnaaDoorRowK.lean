/- Rows of structs of k cells, whatever k. -/
import Derived.Test.YtaelhgkodcgmnaaDoorMemC
import Derived.Test.YtaelhgkodcgmnaaDoorOpen
import Derived.Deep.Fields
import Derived.ChangeSame
namespace Go.Proofs.YtaelhgkodcgmnaaDoor
open Go.ChangeShapes Go.WideShapes Go.ChangeAt Go.RowKit Go.Deep
set_option linter.unusedVariables false
set_option linter.unusedSimpArgs false

def tk {α : Type} (f : α → List Value) (l : List α) : List Value := l.flatMap f
section
variable {α : Type} {f : α → List Value} {k : Nat}
theorem tk_len (hk : ∀ a, (f a).length = k) (l : List α) : (tk f l).length = l.length * k := by
  induction l with
  | nil => simp [tk]
  | cons a l ih =>
    have := hk a
    simp only [tk, List.flatMap_cons, List.length_append, List.length_cons] at ih ⊢
    rw [ih, this, Nat.add_mul]
    omega
theorem tk_at (hk : ∀ a, (f a).length = k) {l : List α} {i : Nat} {a : α} (h : l[i]? = some a) {j : Nat} (hj : j < k) : (tk f l)[i * k + j]? = (f a)[j]? := by
  induction l generalizing i with
  | nil => simp at h
  | cons b l ih =>
    cases i with
    | zero =>
      simp at h
      subst h
      rw [Nat.zero_mul, Nat.zero_add]
      show (f b ++ tk f l)[j]? = _
      rw [List.getElem?_append_left (by rw [hk]; exact hj)]
    | succ i =>
      have h' : l[i]? = some a := by simpa using h
      have := ih h'
      show (f b ++ tk f l)[(i + 1) * k + j]? = _
      have e1 : (i + 1) * k = i * k + k := by rw [Nat.add_mul]; omega
      rw [e1, List.getElem?_append_right (by rw [hk]; omega), hk]
      have e2 : i * k + k + j - k = i * k + j := by omega
      rw [e2]
      exact this
theorem tk_app (l m : List α) : tk f (l ++ m) = tk f l ++ tk f m := by simp [tk]
theorem tk_one (a : α) : tk f [a] = f a := by simp [tk]
theorem tk_cons (a : α) (l : List α) : tk f (a :: l) = f a ++ tk f l := by simp [tk]
theorem tk_drop (hk : ∀ a, (f a).length = k) (l : List α) (n : Nat) : tk f (l.drop n) = (tk f l).drop (n * k) := by
  induction n generalizing l with
  | zero => simp
  | succ n ih =>
    cases l with
    | nil => simp [tk]
    | cons a l =>
      rw [List.drop_succ_cons, ih, tk_cons, show (n + 1) * k = k + n * k by rw [Nat.add_mul]; omega, ← List.drop_drop]
      congr 1
      rw [List.drop_append, hk]
      simp [List.drop_eq_nil_of_le (Nat.le_of_eq (hk a))]
theorem tk_take (hk : ∀ a, (f a).length = k) (l : List α) (n : Nat) : tk f (l.take n) = (tk f l).take (n * k) := by
  induction n generalizing l with
  | zero => simp [tk]
  | succ n ih =>
    cases l with
    | nil => simp [tk]
    | cons a l =>
      rw [List.take_succ_cons, tk_cons, ih, tk_cons, show (n + 1) * k = k + n * k by rw [Nat.add_mul]; omega, List.take_append, hk]
      congr 1
      · rw [List.take_of_length_le (by rw [hk]; omega)]
      · congr 1; omega
theorem tk_all {P : Value → Prop} (h : ∀ a, ∀ u ∈ f a, P u) (l : List α) : ∀ u ∈ tk f l, P u := by
  intro u hu
  obtain ⟨a, _, h2⟩ := List.mem_flatMap.1 hu
  exact h a u h2
end
section
variable {w w' : World}
theorem RowN.shapeK {k n : Nat} {v : Value} {xs : List Value} (h : RowN k w v n xs) : ∃ A c, v = .slice A n c ∧ n ≤ c ∧ c ≤ maxLen := by
  obtain ⟨_, A, c, h1, h2, h3, _⟩ := h
  exact ⟨A, c, h1, h2, h3⟩
/-- element i of a row of structs: where it lies, and its cells -/
theorem RowN.atk {α : Type} {f : α → List Value} {k n : Nat} (hk : ∀ a, (f a).length = k) (h0 : 0 < k) {v : Value} {l : List α} (h : RowN k w v n (tk f l)) {i : Nat} {a : α} (hi : l[i]? = some a) :
    ∃ ad c, v = .slice (some ad) n c ∧ ad.block < w.heap.size ∧ ∀ j u, (f a)[j]? = some u → w.cell? ((ad.add (i * k)).add j) = some u := by
  obtain ⟨hl, A, c, h1, h2, h3, h4⟩ := h
  have hil : i < l.length := (List.getElem?_eq_some_iff.1 hi).1
  have hpos : 0 < (tk f l).length := by
    rw [tk_len hk]
    exact Nat.mul_pos (by omega) h0
  rcases h4 with ⟨_, rfl⟩ | ⟨ad, rfl, h5, h6⟩
  · obtain rfl : n = 0 := by omega
    omega
  · refine ⟨ad, c, h1, h5 hpos, fun j u hu => ?_⟩
    rw [add_add]
    have hj : j < k := by rw [← hk a]; exact (List.getElem?_eq_some_iff.1 hu).1
    exact h6 _ _ (by rw [tk_at hk hi hj]; exact hu)
theorem addkk (a : Addr) (i : Nat) (h : 0 < i) : a.add i = ⟨a.block, a.off + i, none⟩ := by
  unfold Addr.add
  split
  · omega
  · rfl
/-- .. in the walk's own spelling -/
theorem RowN.atw {α : Type} {f : α → List Value} {k n : Nat} (hk : ∀ a, (f a).length = k) (h0 : 0 < k) {v : Value} {l : List α} (h : RowN k w v n (tk f l)) {i : Nat} {a : α} (hi : l[i]? = some a) :
    ∃ ad c, v = .slice (some ad) n c ∧ (ad.add (i * k)).block < w.heap.size ∧ (∀ u, (f a)[0]? = some u → w.cell? (ad.add (i * k)) = some u) ∧ ∀ j u, 0 < j → (f a)[j]? = some u → w.cell? ⟨(ad.add (i * k)).block, (ad.add (i * k)).off + j, none⟩ = some u := by
  obtain ⟨ad, c, h1, h2, h3⟩ := RowN.atk hk h0 h hi
  refine ⟨ad, c, h1, by rw [block_add]; exact h2, fun u hu => ?_, fun j u hj hu => ?_⟩
  · have := h3 0 u hu
    rw [add_add] at this
    exact this
  · have := h3 j u hu
    rwa [addkk _ _ hj] at this
end
section
variable {H : Type} {enc : TypeId × Value → H} {P : Program} {w : World} {rch : Reach} {b0 : Nat}
set_option maxRecDepth 100000 in
/-- a row of structs of k cells, as it comes in -/
theorem tuples_of_trod1 {α : Type} [Inhabited α] {f : α → List Value} {k : Nat} (hk : ∀ a, (f a).length = k) (h0 : 0 < k) (Good : α → Prop) {t e : TypeId} (ht : P.underlying t = some (.slice e)) (hce : P.cellsOf e = k)
    (step : ∀ cs n y, cs.length = k → DataW.trod enc P w 0 (fun _ => true) true n e cs = some y → ∃ a : α, Good a ∧ cs = f a)
    {v : Value} {n : Nat} {x : DataW H × List MemPlace} (hf : DataW.trod enc P w 0 (fun _ => true) true n t [v] = some x) :
    ∃ l : List α, (∀ a ∈ l, Good a) ∧ ∃ A c, v = .slice A l.length c ∧ RowN k w (.slice A l.length c) l.length (tk f l) := by
  rcases open_slice ht hf with ⟨hcs, _⟩ | ⟨a, len, cap, m, n', D, Pl, hcs, _, hl, hm, hmm, _, hi⟩
  · simp at hcs
    subst hcs
    exact ⟨[], by simp, none, 0, rfl, RowN.nil_⟩
  · simp at hcs
    subst hcs
    have hlm : len ≤ m := by rw [hmm]; simp; omega
    rw [hce] at hi
    have hX : ∀ i, i < len → ∃ o : α, Good o ∧ ∀ j u, (f o)[j]? = some u → w.cell? (a.add (i * k + j)) = some u := by
      intro i hil
      obtain ⟨cs', hc1, hc2⟩ := hi i (by omega)
      obtain ⟨hb, hlen, hcell⟩ := World.cells?_some hc1
      obtain ⟨o, hg, rfl⟩ := step cs' _ _ hlen hc2
      refine ⟨o, hg, fun j u hu => ?_⟩
      have hj : j < k := by rw [← hk o]; exact (List.getElem?_eq_some_iff.1 hu).1
      have c0 := hcell j hj
      rw [add_add] at c0
      rw [c0]
      exact hu
    obtain ⟨g, hF⟩ := choose_lt hX
    have hlen : ((List.range len).map g).length = len := by simp
    have hbl : 0 < len → a.block < w.heap.size := fun h1 => by
      have hk0 := hk (g 0)
      have := lt_of_cell ((hF 0 h1).2 0 _ (List.getElem?_eq_getElem (by omega)))
      rwa [block_add] at this
    refine ⟨(List.range len).map g, ?_, some a, cap, by rw [hlen], tk_len hk _, some a, cap, rfl, by rw [hlen]; simpa using hl, hm, .inr ⟨a, rfl, fun h1 => hbl ?_, fun i u hu => ?_⟩⟩
    · intro o ho
      obtain ⟨i, hi', rfl⟩ := List.mem_map.1 ho
      exact (hF i (List.mem_range.1 hi')).1
    · rw [tk_len hk, hlen] at h1
      exact Nat.pos_of_mul_pos_right h1
    · have hi3 : i < len * k := by
        have := (List.getElem?_eq_some_iff.1 hu).1
        rw [tk_len hk, hlen] at this
        exact this
      have hq : i / k < len := Nat.div_lt_of_lt_mul (by rw [Nat.mul_comm]; exact hi3)
      have hr : i % k < k := Nat.mod_lt _ h0
      have e : i = i / k * k + i % k := by rw [Nat.mul_comm]; exact (Nat.div_add_mod i k).symm
      have hat := tk_at hk (l := (List.range len).map g) (i := i / k) (a := g (i / k)) (by rw [List.getElem?_map, List.getElem?_range hq]; rfl) hr
      rw [← e, hu] at hat
      have := (hF (i / k) hq).2 (i % k) u hat.symm
      rwa [← e] at this
end
end Go.Proofs.YtaelhgkodcgmnaaDoor
