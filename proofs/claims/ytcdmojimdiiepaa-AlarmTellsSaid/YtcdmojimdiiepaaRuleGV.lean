/- Layer 18: channels of rules: the mathematics. -/
import Derived.Test.YtcdmojimdiiepaaRuleMV
import Derived.Lib.SlicesCompact
namespace Go.Proofs.Ytcdmojimdiiepaa
open Go.ChangeShapes Go.WideShapes Go.ChangeAt Go.RowKit
set_option linter.unusedVariables false
set_option linter.unusedSimpArgs false

theorem uniq_lt : ∀ (a b : List Int), a.Pairwise (· < ·) → b.Pairwise (· < ·) → (∀ x, x ∈ a ↔ x ∈ b) → a = b
  | [], [], _, _, _ => rfl
  | [], y :: b, _, _, h => absurd ((h y).2 (by simp)) (by simp)
  | x :: a, [], _, _, h => absurd ((h x).1 (by simp)) (by simp)
  | x :: a, y :: b, ha, hb, h => by
    rw [List.pairwise_cons] at ha hb
    have hxy : x = y := by
      rcases List.mem_cons.1 ((h x).1 (by simp)) with h1 | h1
      · exact h1
      · rcases List.mem_cons.1 ((h y).2 (by simp)) with h2 | h2
        · exact h2.symm
        · have := hb.1 x h1
          have := ha.1 y h2
          omega
    subst hxy
    congr 1
    refine uniq_lt a b ha.2 hb.2 fun z => ⟨fun hz => ?_, fun hz => ?_⟩
    · rcases List.mem_cons.1 ((h z).1 (by simp [hz])) with h1 | h1
      · have := ha.1 z hz; omega
      · exact h1
    · rcases List.mem_cons.1 ((h z).2 (by simp [hz])) with h1 | h1
      · have := hb.1 z hz; omega
      · exact h1
def chs (l : List T) : List Int := (l.filter isLim).map (·.2.1)
/-- put in its place, once -/
def insU : List Int → Int → List Int
  | [], x => [x]
  | y :: l, x => if x < y then x :: y :: l else if x = y then y :: l else y :: insU l x
def chO (l : List T) : List Int := (chs l).foldl insU []
theorem insU_mem (l : List Int) (x z : Int) : z ∈ insU l x ↔ z = x ∨ z ∈ l := by
  induction l with
  | nil => simp [insU]
  | cons y l ih =>
    unfold insU
    by_cases h1 : x < y
    · rw [if_pos h1]; simp
    · rw [if_neg h1]
      by_cases h2 : x = y
      · rw [if_pos h2]; subst h2; simp
      · rw [if_neg h2]
        simp only [List.mem_cons, ih]
        constructor
        · rintro (h | h | h) <;> simp [h]
        · rintro (h | h | h) <;> simp [h]
theorem insU_lt (l : List Int) (x : Int) (h : l.Pairwise (· < ·)) : (insU l x).Pairwise (· < ·) := by
  induction l with
  | nil => simp [insU]
  | cons y l ih =>
    rw [List.pairwise_cons] at h
    unfold insU
    by_cases h1 : x < y
    · rw [if_pos h1, List.pairwise_cons, List.pairwise_cons]
      refine ⟨fun z hz => ?_, h.1, h.2⟩
      rcases List.mem_cons.1 hz with rfl | hz
      · exact h1
      · have := h.1 z hz; omega
    · rw [if_neg h1]
      by_cases h2 : x = y
      · rw [if_pos h2, List.pairwise_cons]; exact h
      · rw [if_neg h2, List.pairwise_cons]
        refine ⟨fun z hz => ?_, ih h.2⟩
        rcases (insU_mem l x z).1 hz with rfl | hz
        · omega
        · exact h.1 z hz
theorem fold_ins (c : List Int) : ∀ a : List Int, a.Pairwise (· < ·) → (c.foldl insU a).Pairwise (· < ·) ∧ ∀ z, z ∈ c.foldl insU a ↔ z ∈ c ∨ z ∈ a := by
  induction c with
  | nil => intro a h; exact ⟨h, fun z => by simp⟩
  | cons x c ih =>
    intro a h
    obtain ⟨h1, h2⟩ := ih (insU a x) (insU_lt a x h)
    refine ⟨h1, fun z => ?_⟩
    rw [List.foldl_cons, h2, insU_mem, List.mem_cons]
    constructor
    · rintro (h | h | h) <;> simp [h]
    · rintro ((h | h) | h) <;> simp [h]
theorem chO_lt (l : List T) : (chO l).Pairwise (· < ·) := (fold_ins (chs l) [] List.Pairwise.nil).1
theorem chO_mem (l : List T) (z : Int) : z ∈ chO l ↔ z ∈ chs l := by
  have := (fold_ins (chs l) [] List.Pairwise.nil).2 z
  rw [chO, this]
  simp
theorem chs_mem (l : List T) (z : Int) : z ∈ chs l ↔ ∃ t ∈ l, isLim t = true ∧ t.2.1 = z := by
  unfold chs
  rw [List.mem_map]
  constructor
  · rintro ⟨t, ht, rfl⟩
    rw [List.mem_filter] at ht
    exact ⟨t, ht.1, ht.2, rfl⟩
  · rintro ⟨t, h1, h2, rfl⟩
    exact ⟨t, List.mem_filter.2 ⟨h1, h2⟩, rfl⟩
theorem chs_len (l : List T) : (chs l).length ≤ l.length := by
  unfold chs
  rw [List.length_map]
  exact List.length_filter_le _ _
theorem chs_snoc (l : List T) (t : T) : chs (l ++ [t]) = if isLim t then chs l ++ [t.2.1] else chs l := by
  unfold chs
  rw [List.filter_append, List.map_append]
  cases h : isLim t with
  | true => simp [List.filter, h]
  | false => simp [List.filter, h]
theorem chO_snoc (l : List T) (t : T) : chO (l ++ [t]) = if isLim t then insU (chO l) t.2.1 else chO l := by
  unfold chO
  rw [chs_snoc]
  cases isLim t with
  | true => simp [List.foldl_append]
  | false => simp
theorem insU_len (l : List Int) (x : Int) : (insU l x).length ≤ l.length + 1 := by
  induction l with
  | nil => simp [insU]
  | cons y l ih =>
    unfold insU
    split
    · simp
    · split
      · simp
      · simp; omega
theorem chO_len (l : List T) : (chO l).length ≤ l.length := by
  have key : ∀ (c a : List Int), (c.foldl insU a).length ≤ a.length + c.length := by
    intro c
    induction c with
    | nil => simp
    | cons x c ih =>
      intro a
      have h1 := ih (insU a x)
      have h2 := insU_len a x
      simp at h1 ⊢
      omega
  have h1 := key (chs l) []
  have h2 := chs_len l
  unfold chO
  simp at h1
  omega
/-- what Compact leaves of a rising row -/
theorem compact_lt (zs : List Int) (h : zs.Pairwise (· ≤ ·)) : (Lib.compact zs).Pairwise (· < ·) ∧ ∀ z, z ∈ Lib.compact zs ↔ z ∈ zs := by
  have hget : ∀ j, (hj : j < zs.length) → zs.toArray[j]! = zs[j] := fun j hj => by simp [hj]
  have hle : ∀ i j, i ≤ j → j < zs.length → zs.toArray[i]! ≤ zs.toArray[j]! := by
    intro i j hij hj
    rw [hget i (by omega), hget j hj]
    rcases Nat.lt_or_ge i j with h1 | h1
    · exact List.pairwise_iff_getElem.1 h i j (by omega) hj h1
    · have : i = j := by omega
      subst this
      exact Int.le_refl _
  unfold Lib.compact Lib.compactUpTo
  refine ⟨?_, fun z => ?_⟩
  · rw [List.pairwise_map]
    refine List.Pairwise.imp_of_mem (R := (· < ·)) (fun {a b} ha hb hab => ?_) (List.Pairwise.filter _ List.pairwise_lt_range)
    rw [List.mem_filter, List.mem_range] at ha hb
    have hk := hb.2
    have hne : zs.toArray[b]! ≠ zs.toArray[b - 1]! := by
      intro he
      rw [Lib.keeps_neg (by omega) he] at hk
      cases hk
    have h1 := hle a (b - 1) (by omega) (by omega)
    have h2 := hle (b - 1) b (by omega) hb.1
    omega
  · rw [List.mem_map]
    constructor
    · rintro ⟨j, hj, rfl⟩
      rw [List.mem_filter, List.mem_range] at hj
      rw [hget j hj.1]
      exact List.getElem_mem _
    · intro hz
      obtain ⟨j, hj, rfl⟩ := List.getElem_of_mem hz
      have key : ∀ m, m < zs.length → ∃ a, a ∈ (List.range zs.length).filter (Lib.keeps zs.toArray) ∧ zs.toArray[a]! = zs.toArray[m]! := by
        intro m
        induction m with
        | zero => intro hm; exact ⟨0, List.mem_filter.2 ⟨List.mem_range.2 hm, Lib.keeps_lt_one _ 0 (by omega)⟩, rfl⟩
        | succ m ih =>
          intro hm
          by_cases he : zs.toArray[m + 1]! = zs.toArray[m]!
          · obtain ⟨a, ha, hb⟩ := ih (by omega)
            exact ⟨a, ha, hb.trans he.symm⟩
          · exact ⟨m + 1, List.mem_filter.2 ⟨List.mem_range.2 hm, Lib.keeps_pos (by simpa using he)⟩, rfl⟩
      obtain ⟨a, ha, hb⟩ := key j hj
      exact ⟨a, ha, by rw [hb, hget j hj]⟩
theorem sorted_compact (l : List T) : Lib.compact ((chs l).mergeSort fun x y => decide (x ≤ y)) = chO l := by
  have hs : ((chs l).mergeSort fun x y => decide (x ≤ y)).Pairwise (· ≤ ·) := by
    have := List.pairwise_mergeSort (le := fun (x y : Int) => decide (x ≤ y)) (fun a b c h1 h2 => by simp at *; omega) (fun a b => by simp; omega) (chs l)
    exact this.imp (fun h => by simpa using h)
  obtain ⟨h1, h2⟩ := compact_lt _ hs
  refine uniq_lt _ _ h1 (chO_lt l) fun z => ?_
  rw [h2, chO_mem]
  exact (List.mergeSort_perm (chs l) _).mem_iff
end Go.Proofs.Ytcdmojimdiiepaa
